"""The good numbers reckoned by texts: one by one where they are few, and by their last three signs where they are many.

Nothing here speaks of stands or tails, so that it goes another way than the program does.
"""

import random

from tests.things import SIGNS, bad_texts, lacks, rule_by, some_rules, write

WITHOUT = [(2, []), (3, []), (10, []), (16, [])]
FORBID_ALL = [(2, [[0], [1]]), (3, [[0], [1], [2]]), (4, [[0], [1], [2], [3]])]
BEGIN_WITH_0 = [
    rule_by(10, "0"), rule_by(2, "0"), rule_by(16, "0"), rule_by(10, "00"), rule_by(10, "03", "00"), rule_by(3, "01"),
    rule_by(10, "0123", "01"), rule_by(2, "0000"), rule_by(2, "01"), rule_by(16, "00f", "0a"), rule_by(10, "00", "1"),
    rule_by(3, "0", "1"), rule_by(4, "0", "12", "3"),
]
WITHIN = [
    rule_by(10, "1234", "23"), rule_by(10, "1", "10", "100", "1000"), rule_by(3, "2", "1202"), rule_by(2, "1", "0110"),
    rule_by(10, "9", "99"), rule_by(2, "11", "0110", "111"), rule_by(16, "fff", "ffff"), rule_by(2, "101", "1010"),
]
# Some have no good number but 0, or but 0 and 1; the last has good ones of seven figures, more than any other in two.
ENDED = [
    rule_by(2, "1"), rule_by(3, "1", "2"), rule_by(2, "0", "11"), rule_by(2, "00", "01", "10", "11"),
    rule_by(2, "00", "11", "010", "101"), rule_by(3, "1", "2", "00"), rule_by(4, "1", "2", "3"),
    rule_by(3, "0", "11", "12", "2"), rule_by(2, "0", "1111"), rule_by(2, "0000", "01", "1111"),
    rule_by(5, "1", "2", "3", "4"), rule_by(2, "0000", "0100", "1010", "11"),
]
# Here every number of figures has some good ones, but few.
ENDLESS_FEW = [
    rule_by(2, "10"), rule_by(2, "01"), rule_by(2, "0"), rule_by(2, "00", "11"), rule_by(3, "0", "1"),
    rule_by(2, "00", "01"), rule_by(3, "10", "20", "21"), rule_by(2, "010", "101", "00"), rule_by(4, "1", "2", "03"),
]
PLAIN = [
    rule_by(10, "13", "7"), rule_by(10, "7"), rule_by(10, "4", "13"), rule_by(2, "11"), rule_by(2, "111"),
    rule_by(16, "dead", "beef", "f"), rule_by(10, "1234", "5678"), rule_by(10, "9999"), rule_by(7, "66", "606"),
    rule_by(3, "00", "01", "22"), rule_by(12, "b", "1a"),
]
# As many stands as there can be; too many threes of signs to be reckoned by hand far on.
WIDE = rule_by(16, "0123", "4567", "89ab", "cdef")
KINDS = WITHOUT + FORBID_ALL + BEGIN_WITH_0 + WITHIN + ENDED + ENDLESS_FEW + PLAIN


def rules(how_many=40, seed=21):
    return KINDS + some_rules(how_many, seed=seed) + some_rules(how_many // 2, bases=[2, 3], seed=seed + 1)


def good_texts(rule, top):
    """The writings of all good numbers below the top, rising, by going through the numbers."""
    return [text for text in [write(rule[0], n) for n in range(top)] if lacks(rule, text)]


def good_numbers(rule, top):
    return [int(text, rule[0]) for text in good_texts(rule, top)]


def beside_powers(base, most):
    told = []
    power = base
    while power <= most:
        told += [power - 1, power, power + 1]
        power *= base
    return told


def few_numbers(base, top):
    """Numbers up to the top: the first ones, those beside powers of the base, and some."""
    told = list(range(20)) + beside_powers(base, top) + [top - 1, top]
    return [n for n in told + random.Random(base).sample(range(top), 12) if n <= top]


def great_numbers(base, how_many=6):
    """Numbers to twenty-six figures in ten, some of them beside powers of the base."""
    source = random.Random(base)
    told = [source.randrange(10 ** size) for size in source.sample(range(5, 27), how_many)]
    return told + source.sample(beside_powers(base, 10 ** 26 - 2), how_many) + [10 ** 25, 10 ** 26 - 1]


def steps_by_hand(rule):
    """What the last three signs become by one sign more, or None; a sign that no stretch has is written as a dot."""
    bad = bad_texts(rule)
    used = "".join(bad)
    known = {}

    def step(last, figure):
        if (last, figure) not in known:
            text = last + (SIGNS[figure] if SIGNS[figure] in used else ".")
            known[last, figure] = None if any(text.endswith(each) for each in bad) else text[-3:]
        return known[last, figure]

    return step


class Below:
    """How many good numbers lie below n, their sum, the sum of their figures, and how often one figure is there.

    Writings are let grow sign by sign, all at once by their last signs; "at" are n's own figures as far as they came,
    "begun" is false while there was nothing but 0.
    """

    def __init__(self, rule, n, figure=0):
        self.base = rule[0]
        self.figure = figure
        self.step = steps_by_hand(rule)
        groups = {("", True, False): (1, 0, 0, 0)}
        for sign in write(self.base, n):
            groups = self.grown(groups, SIGNS.index(sign))
        zero = groups.pop(("", False, False), None)
        below = [told for (_, at, _), told in groups.items() if not at]
        if zero and lacks(rule, "0"):
            below.append((1, 0, 0, 1 if figure == 0 else 0))
        self.many, self.total, self.figures, self.often = [sum(each[k] for each in below) for k in range(4)]

    def grown(self, groups, limit):
        told = {}
        for (last, at, begun), (many, total, figures, often) in groups.items():
            for figure in range(limit + 1 if at else self.base):
                starts = begun or figure > 0
                behind = self.step(last, figure) if starts else ""
                if behind is None:
                    continue
                key = (behind, at and figure == limit, starts)
                before = told.get(key, (0, 0, 0, 0))
                more = many if starts and figure == self.figure else 0
                told[key] = (before[0] + many, before[1] + total * self.base + figure * many,
                             before[2] + figures + figure * many, before[3] + often + more)
        return told


def how_many_long(rule, most):
    """By numbers of figures from 1 on: how many good numbers have just so many."""
    step = steps_by_hand(rule)
    groups = {}
    for figure in range(1, rule[0]):
        behind = step("", figure)
        if behind is not None:
            groups[behind] = groups.get(behind, 0) + 1
    told = [sum(groups.values()) + (1 if lacks(rule, "0") else 0)]
    while len(told) < most:
        grown = {}
        for last, many in groups.items():
            for figure in range(rule[0]):
                behind = step(last, figure)
                if behind is not None:
                    grown[behind] = grown.get(behind, 0) + many
        groups = grown
        told.append(sum(groups.values()))
    return told


def goes_on(rule):
    """Endless or not: the last signs that there can be, figure by figure, until they come again or there are none."""
    step = steps_by_hand(rule)
    last = frozenset(step("", figure) for figure in range(1, rule[0])) - {None}
    seen = set()
    while last and last not in seen:
        seen.add(last)
        last = frozenset(step(each, figure) for each in last for figure in range(rule[0])) - {None}
    return len(last) > 0
