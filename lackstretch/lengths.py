"""The good numbers of just so many figures, and whether the good numbers are endless."""

from lackstretch.errors import Endless, NoNumber
from lackstretch.figures import check_rule, is_number
from lackstretch.sums import number_totals
from lackstretch.tails import MOST_FIGURES, Tails


def check_length(thing):
    if not is_number(thing) or not 1 <= thing <= MOST_FIGURES:
        raise NoNumber("how many figures is a whole number from 1 to 60")


# None is shorter than one figure, though Tails counts 0 as within no figures.
def count_shorter(tails, m):
    if m == 1:
        return 0
    return tails.many_within(m - 1)


def count_long(rule, m):
    check_rule(rule)
    check_length(m)
    tails = Tails(rule)
    return tails.many_within(m) - count_shorter(tails, m)


def least_long(rule, m):
    check_rule(rule)
    check_length(m)
    tails = Tails(rule)
    k = count_shorter(tails, m)
    if tails.many_within(m) == k:
        return None
    return tails.number_at(m, k)


def greatest_long(rule, m):
    check_rule(rule)
    check_length(m)
    tails = Tails(rule)
    many = tails.many_within(m)
    if many == count_shorter(tails, m):
        return None
    return tails.number_at(m, many - 1)


# The number 0, within no figures to Tails, adds nothing to a sum.
def sum_long(rule, m):
    check_rule(rule)
    check_length(m)
    totals = number_totals(rule, m)
    return totals.total_within(m) - totals.total_within(m - 1)


def is_endless(rule):
    check_rule(rule)
    return Tails(rule).are_endless()


# Where they are not endless, no good number has more figures than there are stands.
def greatest_good(rule):
    check_rule(rule)
    tails = Tails(rule)
    if tails.are_endless():
        raise Endless("endless good numbers have no greatest one")
    many = tails.many_within(tails.outset)
    if many == 0:
        return None
    return tails.number_at(tails.outset, many - 1)
