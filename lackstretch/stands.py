"""Stands: what of the figures read so far a bad stretch may still grow from."""

from lackstretch.errors import NoFigures, NoStand
from lackstretch.figures import are_figures, check_rule, is_figure, lacks_all


def begins_one(bad, figures):
    return any([stretch[:len(figures)] == figures for stretch in bad])


def longest_stand(bad, figures):
    if not lacks_all(bad, figures):
        return None
    for start in range(len(figures)):
        if begins_one(bad, figures[start:]):
            return figures[start:]
    return []


# A beginning of one stretch in which another one stands comes behind no figures, so it is left out.
def stands_of(bad):
    found = [[]]
    for stretch in bad:
        for size in range(1, len(stretch)):
            stand = stretch[:size]
            if stand not in found and lacks_all(bad, stand):
                found.append(stand)
    return sorted(found, key=lambda each: (len(each), each))


# The kinds are asked first: to Python [True] and [1] are alike.
def is_stand(rule, thing):
    return are_figures(rule[0], thing) and thing in stands_of(rule[1])


def stand_behind(rule, figures):
    check_rule(rule)
    if not are_figures(rule[0], figures):
        raise NoFigures("a stand is behind a list of figures of the base")
    return longest_stand(rule[1], figures)


def all_stands(rule):
    check_rule(rule)
    return stands_of(rule[1])


def step_from(rule, stand, figure):
    check_rule(rule)
    if not is_stand(rule, stand):
        raise NoStand("a step begins at a stand of the rule")
    if not is_figure(rule[0], figure):
        raise NoFigures("a step is by one figure of the base")
    return longest_stand(rule[1], stand + [figure])
