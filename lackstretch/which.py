"""How many good numbers lie below a number, the so-manieth one and its place, the next one and the last one."""

from lackstretch.errors import NoGood, TooMany
from lackstretch.figures import check_number, check_rule, figures_of, is_good, is_number
from lackstretch.tails import MOST_FIGURES, Tails


def count_below(rule, n):
    check_rule(rule)
    return Tails(rule).many_below(figures_of(rule[0], n))


def good_at(tails, k):
    check_number(k)
    for size in range(MOST_FIGURES + 1):
        if tails.many_within(size) > k:
            return tails.number_at(size, k)
    if tails.are_endless():
        raise TooMany("the good number of this place has more than sixty figures")
    return None


def good_by(rule, k):
    check_rule(rule)
    return good_at(Tails(rule), k)


def place_of(rule, n):
    check_rule(rule)
    if not is_number(n) or not is_good(rule, n):
        raise NoGood("only a good number has a place among them")
    return count_below(rule, n)


# Where any good number is longer, one is longer by just one figure: the beginning of a good number is good.
def next_good(rule, n):
    check_rule(rule)
    figures = figures_of(rule[0], n)
    tails = Tails(rule)
    k = tails.many_below(figures)
    size = len(figures) + 1
    if tails.many_within(size) > k:
        return tails.number_at(size, k)
    return None


def last_good(rule, n):
    check_rule(rule)
    figures = figures_of(rule[0], n)
    tails = Tails(rule)
    k = tails.many_below(figures)
    if k == 0:
        return None
    return tails.number_at(len(figures), k - 1)
