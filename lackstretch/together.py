"""Numbers that keep several rules at once, of one base or of several, and one rule in the place of several."""

from lackstretch.errors import NoNumber, NoRules, TooMany
from lackstretch.figures import MOST_STRETCHES, check_number, is_good, is_number, is_rule, stands_within

MOST_RULES = 3
GREATEST_BOUND = 2000
REACH = 500


def are_rules(thing):
    if not isinstance(thing, list) or not 1 <= len(thing) <= MOST_RULES:
        return False
    return all([is_rule(each) for each in thing])


def check_rules(thing):
    if not are_rules(thing):
        raise NoRules("rules together are a list of one to three rules")


def check_bound(thing):
    if not is_number(thing) or thing > GREATEST_BOUND:
        raise NoNumber("a bound is a whole number from 0 to 2000")


def is_good_by_each(rules, n):
    return all([is_good(rule, n) for rule in rules])


def keeps_all(rules, n):
    check_rules(rules)
    return is_good_by_each(rules, n)


# Stands of several bases can't be walked figure by figure at once, so the few numbers below the bound are gone through.
def all_keeping(rules, n):
    check_rules(rules)
    check_bound(n)
    return [each for each in range(n) if is_good_by_each(rules, each)]


def count_keeping(rules, n):
    return len(all_keeping(rules, n))


def next_keeping(rules, n):
    check_rules(rules)
    check_number(n)
    for each in range(n, n + REACH):
        if is_good_by_each(rules, each):
            return each
    return None


def unlike_stretches(rules):
    found = []
    for rule in rules:
        for stretch in rule[1]:
            if stretch not in found:
                found.append(list(stretch))
    return sorted(found)


# What lacks the other one lacks this one too.
def is_needless(stretches, stretch):
    return any([other != stretch and stands_within(other, stretch) for other in stretches])


def one_rule(rules):
    check_rules(rules)
    base = rules[0][0]
    if any([rule[0] != base for rule in rules]):
        raise NoRules("one rule is told of rules of one base alone")
    stretches = unlike_stretches(rules)
    needed = [stretch for stretch in stretches if not is_needless(stretches, stretch)]
    if len(needed) > MOST_STRETCHES:
        raise TooMany("one rule would have more than four stretches")
    return (base, needed)
