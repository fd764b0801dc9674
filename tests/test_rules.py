"""[5] what a rule is, and which numbers are good by it; [3] nothing good is left out."""

import random
import unittest

from lackstretch.errors import NoNumber, NoRule
from lackstretch.figures import is_good, is_rule
from tests.things import BASES, anything, is_int, lacks, rule_by, some_rules, write

RULES = [
    (10, []), (2, []), (16, []), (10, [[0]]), (2, [[1]]), (16, [[15]]), (10, [[1, 3], [7]]), (10, [[9, 9, 9, 9]]),
    (10, [[1], [1, 0], [1, 0, 0], [1, 0, 0, 0]]), (10, [[0], [1], [2], [3]]), (2, [[0], [1]]),
    (10, [[1, 2, 3, 4], [2, 3]]), (3, [[0, 0], [0, 1], [2, 2]]), (16, [[0, 0, 0, 0], [10], [15, 15, 15, 15]]),
    (10, [[1, 9, 9, 9], [2]]),
]

JUST_NONE = [
    # the base
    (1, []), (0, []), (-10, []), (17, []), (10 ** 30, []), (True, []), (False, []), ("10", []), (None, []),
    ([10], []), ((10,), []), (1, [[0]]), (17, [[0]]),
    # not rising, or twice
    (10, [[7], [1, 3]]), (10, [[2], [1]]), (10, [[1, 0], [1]]), (10, [[1], [1]]), (10, [[1, 2], [1, 2]]),
    (10, [[1], [3], [2]]), (10, [[1], [2], [2]]), (10, [[1], [2], [3], [3]]), (10, [[2], [1, 9, 9, 9]]),
    # how long, and how many
    (10, [[]]), (10, [[], [1]]), (10, [[1], []]), (10, [[1, 2, 3, 4, 5]]), (10, [[0, 0, 0, 0, 0]]),
    (10, [[1], [2, 2, 2, 2, 2]]), (10, [[1], [2], [3], [4], [5]]), (10, [[0]] * 5),
    # a tuple in a list's place, and a list in a tuple's
    (10, ()), (10, ([1],)), (10, [(1,)]), (10, [[1], (2,)]), (10, [(1, 3), [7]]), [10, []], [10, [[1]]],
    # a figure beyond
    (10, [[10]]), (10, [[-1]]), (10, [[1, 10]]), (2, [[2]]), (2, [[0, 2]]), (16, [[16]]), (9, [[1], [9]]),
    (10, [[1], [2, -3]]), (3, [[0], [1], [2], [3]]),
    # no figures
    (10, [[True]]), (10, [[False]]), (10, [[0], [True]]), (10, [[1, True]]), (10, [["1"]]), (10, [[None]]),
    (10, [[[1]]]), (10, [[(1,)]]), (10, ["1"]), (10, ["13"]), (10, [1]), (10, [None]), (10, [{}]), (10, [{0: 1}]),
    (10, [[1], None]), (10, [True]),
    # other shapes
    (), (10,), ([],), (10, [], []), (10, [[1]], [[2]]), ([], 10), (10, None), (10, 1), (10, True), (10, ""),
    (10, "1"), (10, {}), (10, {0: [1]}), ((10, []),), ((10, []), (10, [])), 10, True, False, None, "", "10",
    "10 13 7", [], [10], [[10, []]], {}, {10: []}, {0: 10, 1: []}, 10 ** 25, -1,
]


def is_stretch(base, thing):
    return type(thing) is list and 1 <= len(thing) <= 4 and all(is_int(each) and 0 <= each < base for each in thing)


def is_rule_by_hand(thing):
    if type(thing) is not tuple or len(thing) != 2:
        return False
    base, bad = thing
    if not is_int(base) or base not in BASES or type(bad) is not list or len(bad) > 4:
        return False
    if not all(is_stretch(base, each) for each in bad):
        return False
    return bad == sorted(bad) and len({tuple(each) for each in bad}) == len(bad)


class IsRule(unittest.TestCase):
    def test_rules(self):
        for rule in RULES + some_rules(300):
            with self.subTest(rule=rule):
                self.assertIs(is_rule(rule), True)

    def test_every_base(self):
        for base in BASES:
            self.assertIs(is_rule((base, [])), True)
            self.assertIs(is_rule((base, [[0], [base - 1]])), True)
            self.assertIs(is_rule((base, [[base - 1] * 4])), True)
            self.assertIs(is_rule((base, [[base]])), False)
            self.assertIs(is_rule((base, [[0], [base - 1, base]])), False)

    def test_just_none(self):
        for thing in JUST_NONE:
            with self.subTest(thing=thing):
                self.assertIs(is_rule(thing), False)

    def test_of_anything(self):
        for thing in anything():
            with self.subTest(thing=type(thing)):
                self.assertIs(is_rule(thing), is_rule_by_hand(thing))

    def test_of_shuffled_stretches(self):
        source = random.Random(5)
        for base, bad in some_rules(300):
            shuffled = list(bad)
            source.shuffle(shuffled)
            self.assertIs(is_rule((base, shuffled)), shuffled == bad)


class IsGood(unittest.TestCase):
    def test_plain_ones(self):
        rule = (10, [[1, 3], [7]])
        for n in [0, 1, 3, 31, 103, 123, 331, 1031]:
            self.assertIs(is_good(rule, n), True, n)
        for n in [7, 13, 70, 113, 130, 137, 2713, 5135, 10 ** 24 + 7]:
            self.assertIs(is_good(rule, n), False, n)

    def test_no_stretch(self):
        for base in BASES:
            for n in list(range(50)) + [10 ** 26 - 1]:
                self.assertIs(is_good((base, []), n), True)

    def test_at_the_beginning_the_end_and_the_midst(self):
        rule = rule_by(10, "246")
        for n in [246, 2461, 1246, 12461, 24624, 22246, 224666]:
            self.assertIs(is_good(rule, n), False, n)
        for n in [24, 46, 2046, 2406, 2416, 642, 24056, 24, 0]:
            self.assertIs(is_good(rule, n), True, n)

    def test_stretches_that_begin_with_0(self):
        rule = rule_by(10, "03", "00")
        for n in [0, 3, 30, 33, 10, 3010]:
            self.assertIs(is_good(rule, n), True, n)
        for n in [103, 100, 5003, 2030, 303]:
            self.assertIs(is_good(rule, n), False, n)
        self.assertIs(is_good(rule_by(10, "0"), 0), False)
        self.assertIs(is_good(rule_by(10, "0"), 10), False)
        self.assertIs(is_good(rule_by(10, "0"), 11), True)
        self.assertIs(is_good(rule_by(10, "00"), 0), True)

    def test_stretches_longer_than_the_number(self):
        rule = rule_by(10, "1234", "5678")
        for n in [0, 1, 12, 123, 234, 567, 678]:
            self.assertIs(is_good(rule, n), True, n)
        self.assertIs(is_good(rule, 1234), False)
        self.assertIs(is_good(rule, 15678), False)

    def test_no_good_number_at_all(self):
        for n in range(100):
            self.assertIs(is_good((2, [[0], [1]]), n), False)

    def test_figures_are_those_of_the_rules_base(self):
        self.assertIs(is_good((16, [[15]]), 15), False)
        self.assertIs(is_good((16, [[1], [5]]), 15), True)
        self.assertIs(is_good((2, [[1, 1]]), 11), False)
        self.assertIs(is_good((2, [[1, 1]]), 10), True)

    def test_just_the_good_ones(self):
        for rule in RULES + some_rules(150):
            base = rule[0]
            for n in range(700):
                self.assertIs(is_good(rule, n), lacks(rule, write(base, n)), (rule, n))

    def test_great_numbers(self):
        source = random.Random(3)
        for rule in RULES + some_rules(100):
            for size in range(3, 27):
                n = source.randrange(10 ** size)
                self.assertIs(is_good(rule, n), lacks(rule, write(rule[0], n)), (rule, n))

    def test_no_rule_ahead_of_no_number(self):
        for thing in JUST_NONE + [thing for thing in anything() if not is_rule_by_hand(thing)]:
            for n in [0, 5, -1, None, True, "5", [5]]:
                with self.subTest(thing=type(thing), n=n):
                    self.assertRaises(NoRule, is_good, thing, n)

    def test_no_number(self):
        for rule in RULES:
            for thing in anything():
                if not (is_int(thing) and thing >= 0):
                    with self.subTest(rule=rule, thing=type(thing)):
                        self.assertRaises(NoNumber, is_good, rule, thing)


if __name__ == "__main__":
    unittest.main()
