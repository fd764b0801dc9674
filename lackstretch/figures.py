"""Figures of a number, the number of figures, rules, and which numbers are good by them."""

from lackstretch.errors import NoBase, NoFigures, NoNumber, NoRule

LEAST_BASE = 2
GREATEST_BASE = 16
MOST_STRETCHES = 4
LONGEST_STRETCH = 4


# True and False are ints to Python, but no whole numbers here.
def is_whole(thing):
    return isinstance(thing, int) and not isinstance(thing, bool)


def is_number(thing):
    return is_whole(thing) and thing >= 0


def is_base(thing):
    return is_whole(thing) and LEAST_BASE <= thing <= GREATEST_BASE


def is_figure(base, thing):
    return is_whole(thing) and 0 <= thing < base


def are_figures(base, thing):
    return isinstance(thing, list) and all([is_figure(base, each) for each in thing])


def writes_number(base, thing):
    if not are_figures(base, thing) or len(thing) == 0:
        return False
    return thing[0] != 0 or len(thing) == 1


def is_stretch(base, thing):
    return are_figures(base, thing) and 1 <= len(thing) <= LONGEST_STRETCH


# Rising without a standstill, so that no stretch can be there twice.
def is_rising(stretches):
    return all([stretches[k] < stretches[k + 1] for k in range(len(stretches) - 1)])


# The order is asked last: only figures can be compared with one another whatever was handed in.
def is_bad_list(base, thing):
    if not isinstance(thing, list) or len(thing) > MOST_STRETCHES:
        return False
    return all([is_stretch(base, each) for each in thing]) and is_rising(thing)


def is_rule(thing):
    if not isinstance(thing, tuple) or len(thing) != 2:
        return False
    return is_base(thing[0]) and is_bad_list(thing[0], thing[1])


def check_base(thing):
    if not is_base(thing):
        raise NoBase("a base is a whole number from 2 to 16")


def check_number(thing):
    if not is_number(thing):
        raise NoNumber("a number is a whole number from 0 on")


def check_rule(thing):
    if not is_rule(thing):
        raise NoRule("a rule is a tuple of a base and a rising list of none to four stretches")


def copy_of(rule):
    return (rule[0], [list(stretch) for stretch in rule[1]])


def stands_within(stretch, figures):
    size = len(stretch)
    return any([figures[k:k + size] == stretch for k in range(len(figures) - size + 1)])


def lacks_all(bad, figures):
    return not any([stands_within(stretch, figures) for stretch in bad])


def figures_of(base, n):
    check_base(base)
    check_number(n)
    backwards = [n % base]
    rest = n // base
    while rest > 0:
        backwards.append(rest % base)
        rest = rest // base
    return list(reversed(backwards))


def number_by(base, figures):
    check_base(base)
    if not writes_number(base, figures):
        raise NoFigures("figures of a number are a list of figures of the base without 0 ahead of others")
    n = 0
    for figure in figures:
        n = n * base + figure
    return n


def is_good(rule, n):
    check_rule(rule)
    return lacks_all(rule[1], figures_of(rule[0], n))
