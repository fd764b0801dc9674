"""[12] rules together: which numbers keep them, how many, the next one, and one rule in their place; [3]."""

import random
import unittest

from lackstretch.errors import NoNumber, NoRules, TooMany
from lackstretch.figures import is_good, is_rule
from lackstretch.together import all_keeping, count_keeping, keeps_all, next_keeping, one_rule
from lackstretch.which import count_below, next_good
from tests.by_hand import KINDS, WIDE, WITHOUT, good_numbers, rules
from tests.test_stands import no_rules
from tests.things import (Touchy, answer, anything, bad_texts, figures_in, is_int, lacks, no_numbers, rule_by,
                          some_rules, texts_up_to, write)

BY_NUMBERS = [keeps_all, count_keeping, all_keeping, next_keeping]
SEVEN = rule_by(10, "7")


def no_rule_lists():
    """What is no list of one to three rules."""
    told = [[], [SEVEN] * 4, [SEVEN] * 5, [(2, []), (3, []), (4, []), (5, [])], [SEVEN] * 20, (SEVEN,), (SEVEN, SEVEN),
            SEVEN, {0: SEVEN}, {SEVEN[0]: SEVEN[1]}, [[SEVEN]], [[SEVEN, SEVEN]], [SEVEN, [SEVEN]], [(SEVEN,)],
            [list(SEVEN)], "10 7", ["10 7"], [None], [SEVEN, None], [None, SEVEN], [SEVEN, SEVEN, None],
            [SEVEN, True], [True], 10, None, True, [10, [[7]]], [Touchy(), SEVEN], [SEVEN, Touchy()]]
    told += anything()
    for thing in no_rules():
        told += [[thing], [thing, SEVEN], [SEVEN, thing], [SEVEN, (2, []), thing]]
    return [thing for thing in told if not is_rule_list_by_hand(thing)]


def is_rule_list_by_hand(thing):
    return type(thing) is list and len(thing) in (1, 2, 3) and all(is_rule(each) for each in thing)


def some_togethers(how_many, one_base=False, seed=1):
    """Lists of one, two and three rules, of several bases or of one."""
    source = random.Random(seed)
    told = []
    while len(told) < how_many:
        bases = [source.choice([2, 3, 4, 8, 10, 16])] if one_base else range(2, 17)
        told.append(some_rules(1 + len(told) % 3, bases=bases, seed=source.randrange(10 ** 6)))
    return told


def keeping_by_hand(rules_told, numbers):
    return [n for n in numbers if all(lacks(rule, write(rule[0], n)) for rule in rules_told)]


def one_by_hand(rules_told):
    """The one rule's stretches as texts; a rising list of lists is one of texts too, as signs rise with figures."""
    texts = sorted({text for rule in rules_told for text in bad_texts(rule)})
    return [text for text in texts if not any(other in text for other in texts if other != text)]


PLAIN = [
    [(10, [])], [(2, [])], [SEVEN], [(10, []), (16, [])], [(2, [[0], [1]])], [SEVEN, (2, [[0], [1]])],
    [SEVEN, SEVEN], [SEVEN, SEVEN, SEVEN], [rule_by(10, "13", "7"), rule_by(2, "11")],
    [rule_by(2, "111"), rule_by(3, "22"), rule_by(5, "44")], [rule_by(2, "00"), rule_by(3, "0"), rule_by(16, "f", "0")],
    [rule_by(10, "0"), rule_by(10, "1"), rule_by(10, "2")], [rule_by(2, "10"), rule_by(3, "1")], [WIDE],
    [rule_by(10, "0"), rule_by(2, "11"), WIDE], [rule_by(2, "1"), rule_by(3, "0")], [(16, []), (10, []), (2, [])],
]


class Refusals(unittest.TestCase):
    def test_no_rules_ahead_of_all_else(self):
        for thing in no_rule_lists():
            with self.subTest(thing=type(thing)):
                self.assertRaises(NoRules, one_rule, thing)
                for call in BY_NUMBERS:
                    for n in [0, 7, 2000, 2001, -1, None, True, "5", [5]]:
                        self.assertRaises(NoRules, call, thing, n)

    def test_no_number(self):
        for rules_told in PLAIN:
            for thing in no_numbers() + [-1, -2000, -10 ** 25, True, False, "0", [0], (0,), None]:
                for call in BY_NUMBERS:
                    with self.subTest(call=call.__name__, rules=rules_told, thing=type(thing)):
                        self.assertRaises(NoNumber, call, rules_told, thing)

    def test_bounds(self):
        for rules_told in PLAIN:
            for n in [2001, 2002, 2500, 10 ** 25]:
                self.assertRaises(NoNumber, count_keeping, rules_told, n)
                self.assertRaises(NoNumber, all_keeping, rules_told, n)
                self.assertIs(type(keeps_all(rules_told, n)), bool)
                self.assertIn(type(next_keeping(rules_told, n)), (int, type(None)))

    def test_one_to_three(self):
        for many in [1, 2, 3]:
            self.assertEqual(one_rule([SEVEN] * many), SEVEN)
            self.assertEqual(count_keeping([SEVEN] * many, 10), 9)
        for many in [0, 4]:
            self.assertRaises(NoRules, one_rule, [SEVEN] * many)
            self.assertRaises(NoRules, count_keeping, [SEVEN] * many, 10)


class Plain(unittest.TestCase):
    def test_plain_ones(self):
        together = [rule_by(10, "7"), rule_by(2, "11")]
        self.assertEqual(all_keeping(together, 22), [0, 1, 2, 4, 5, 8, 9, 10, 16, 18, 20, 21])
        self.assertEqual(count_keeping(together, 22), 12)
        self.assertIs(keeps_all(together, 16), True)
        self.assertIs(keeps_all(together, 17), False)
        self.assertIs(keeps_all(together, 3), False)
        self.assertEqual(next_keeping(together, 11), 16)
        self.assertEqual(next_keeping(together, 16), 16)
        self.assertEqual(next_keeping(together, 17), 18)

    def test_bounds(self):
        for rules_told in PLAIN:
            self.assertEqual(all_keeping(rules_told, 0), [])
            self.assertEqual(count_keeping(rules_told, 0), 0)
            zero = keeping_by_hand(rules_told, [0])
            self.assertEqual(all_keeping(rules_told, 1), zero)
            self.assertEqual(count_keeping(rules_told, 1), len(zero))
            whole = keeping_by_hand(rules_told, range(2000))
            self.assertEqual(all_keeping(rules_told, 2000), whole)
            self.assertEqual(count_keeping(rules_told, 2000), len(whole))
        self.assertEqual(all_keeping([(10, [])], 2000), list(range(2000)))

    def test_next_reaches_below_n_and_five_hundred(self):
        ones = [rule_by(10, "1")]
        self.assertEqual(next_keeping(ones, 1501), 2000)
        self.assertIsNone(next_keeping(ones, 1500))
        self.assertIsNone(next_keeping(ones, 1000))
        self.assertEqual(next_keeping(ones, 999), 999)
        self.assertIsNone(next_keeping(ones, 10 ** 25))
        self.assertIsNone(next_keeping(ones + [(2, [])], 2 * 10 ** 25 - 500))
        self.assertEqual(next_keeping(ones + [(2, [])], 2 * 10 ** 25 - 499), 2 * 10 ** 25)
        self.assertIsNone(next_keeping([(10, []), (2, [[0], [1]])], 0))

    def test_each_keeps_though_both_do_not(self):
        apart = [rule_by(2, "1"), rule_by(3, "0")]
        self.assertEqual(all_keeping(apart, 2000), [])
        self.assertEqual(count_keeping(apart, 2000), 0)
        self.assertIsNone(next_keeping(apart, 0))
        self.assertIs(keeps_all(apart, 0), False)
        self.assertIs(keeps_all(apart[:1], 0), True)


class OneByOne(unittest.TestCase):
    def hold(self, rules_told):
        whole = keeping_by_hand(rules_told, range(2000 + 500))
        for n in [0, 1, 2, 10, 77, 500, 1999, 2000]:
            below = [each for each in whole if each < n]
            self.assertEqual(all_keeping(rules_told, n), below, (rules_told, n))
            self.assertEqual(count_keeping(rules_told, n), len(below), (rules_told, n))
            behind = [each for each in whole if n <= each < n + 500]
            self.assertEqual(next_keeping(rules_told, n), behind[0] if behind else None, (rules_told, n))
        for n in range(0, 2500, 7):
            self.assertIs(keeps_all(rules_told, n), n in whole, (rules_told, n))

    def test_plain_ones(self):
        for rules_told in PLAIN:
            self.hold(rules_told)

    def test_of_several_bases(self):
        for rules_told in some_togethers(24, seed=3):
            self.hold(rules_told)

    def test_of_one_base(self):
        for rules_told in some_togethers(12, one_base=True, seed=4):
            self.hold(rules_told)

    def test_the_order_of_the_rules_is_nothing(self):
        for rules_told in some_togethers(9, seed=5):
            self.assertEqual(all_keeping(rules_told, 500), all_keeping(rules_told[::-1], 500))

    def test_great_numbers(self):
        source = random.Random(6)
        for rules_told in PLAIN + some_togethers(12, seed=7):
            for size in [5, 12, 26]:
                n = source.randrange(10 ** size)
                keeping = keeping_by_hand(rules_told, range(n, n + 500))
                self.assertEqual(next_keeping(rules_told, n), keeping[0] if keeping else None, (rules_told, n))
                for each in range(n, n + 10):
                    self.assertIs(keeps_all(rules_told, each), each in keeping, (rules_told, each))

    def test_as_one_rule_alone_is_kept(self):
        for rule in KINDS + [WIDE]:
            good = good_numbers(rule, 700)
            self.assertEqual(all_keeping([rule], 700), good)
            self.assertEqual(count_keeping([rule], 700), count_below(rule, 700))
            for n in [0, 7, 699]:
                told = next_good(rule, n)
                self.assertEqual(next_keeping([rule], n), told if told is not None and told < n + 500 else None)
                self.assertIs(keeps_all([rule], n), is_good(rule, n))

    def test_kinds(self):
        for rules_told in PLAIN:
            self.assertIs(type(all_keeping(rules_told, 30)), list)
            self.assertTrue(all(is_int(n) for n in all_keeping(rules_told, 30)))
            self.assertTrue(is_int(count_keeping(rules_told, 30)))


class OneRule(unittest.TestCase):
    def hold(self, rules_told):
        texts = one_by_hand(rules_told)
        if len(texts) > 4:
            self.assertRaises(TooMany, one_rule, rules_told)
            return
        told = one_rule(rules_told)
        self.assertEqual(told, (rules_told[0][0], [figures_in(text) for text in texts]), rules_told)
        self.assertIs(is_rule(told), True, rules_told)
        for n in range(300):
            self.assertIs(is_good(told, n), keeps_all(rules_told, n), (rules_told, n))

    def test_plain_ones(self):
        for handed, told in [
            ([rule_by(10, "13", "7")], rule_by(10, "13", "7")),
            ([rule_by(10, "13"), rule_by(10, "7")], rule_by(10, "13", "7")),
            ([rule_by(10, "7"), rule_by(10, "13")], rule_by(10, "13", "7")),
            ([(10, [])], (10, [])), ([(10, []), (10, [])], (10, [])), ([(10, []), SEVEN, (10, [])], SEVEN),
            ([rule_by(2, "0"), rule_by(2, "1")], (2, [[0], [1]])),
        ]:
            self.assertEqual(one_rule(handed), told)

    def test_stretches_within_others(self):
        for handed, told in [
            ([rule_by(10, "1234"), rule_by(10, "23")], ["23"]), ([rule_by(10, "12"), rule_by(10, "1")], ["1"]),
            ([rule_by(10, "12"), rule_by(10, "2")], ["2"]), ([rule_by(10, "121"), rule_by(10, "2")], ["2"]),
            ([rule_by(10, "1234", "23")], ["23"]), ([rule_by(10, "1", "10", "100", "1000")], ["1"]),
            ([rule_by(10, "1000"), rule_by(10, "100"), rule_by(10, "10")], ["10"]),
            ([rule_by(10, "9", "99"), rule_by(10, "999")], ["9"]), ([rule_by(10, "12", "21")], ["12", "21"]),
            ([rule_by(10, "121"), rule_by(10, "212")], ["121", "212"]),
            ([rule_by(10, "1234"), rule_by(10, "124", "134")], ["1234", "124", "134"]),
        ]:
            self.assertEqual(one_rule(handed), rule_by(10, *told), handed)

    def test_told_twice(self):
        self.assertEqual(one_rule([SEVEN, SEVEN]), SEVEN)
        self.assertEqual(one_rule([rule_by(10, "13", "7"), rule_by(10, "7", "8")]), rule_by(10, "13", "7", "8"))
        four = rule_by(10, "1", "2", "3", "4")
        self.assertEqual(one_rule([four, four, four]), four)

    def test_more_than_four(self):
        four = rule_by(10, "1", "2", "3", "4")
        self.assertRaises(TooMany, one_rule, [four, rule_by(10, "5")])
        self.assertRaises(TooMany, one_rule, [four, rule_by(10, "55", "56"), rule_by(10, "57", "58")])
        self.assertRaises(TooMany, one_rule, [rule_by(10, "1", "2"), rule_by(10, "3", "4"), rule_by(10, "5")])
        self.assertEqual(one_rule([rule_by(10, "1", "2"), rule_by(10, "3"), rule_by(10, "4")]), four)
        # Eight are told, but only four are needed.
        self.assertEqual(one_rule([rule_by(10, "10", "20", "30", "40"), four]), four)
        self.assertEqual(one_rule([rule_by(10, "15", "25", "35", "45"), rule_by(10, "5")]), rule_by(10, "5"))
        self.assertRaises(TooMany, one_rule, [rule_by(10, "15", "25", "35", "45"), rule_by(10, "6")])

    def test_no_rules_of_other_bases(self):
        four = rule_by(10, "1", "2", "3", "4")
        for handed in [[(10, []), (2, [])], [SEVEN, (9, [[7]])], [SEVEN, SEVEN, (16, [[7]])],
                       [(16, []), SEVEN, SEVEN], [SEVEN, (11, []), SEVEN],
                       [four, rule_by(10, "5"), (2, [])], [(2, []), four, rule_by(10, "5")]]:
            self.assertRaises(NoRules, one_rule, handed)

    def test_by_hand(self):
        for rules_told in some_togethers(150, one_base=True, seed=8) + [[rule] for rule in rules(20, seed=9)]:
            self.hold(rules_told)

    def test_every_two_rules_of_one_stretch_in_two(self):
        singles = [rule_by(2, text) for text in texts_up_to(2, 3) if text]
        for one in singles:
            for other in singles:
                self.hold([one, other])

    def test_the_same_numbers_keep_it(self):
        for rules_told in some_togethers(30, one_base=True, seed=10):
            told = answer(one_rule, rules_told)
            if told is not TooMany:
                self.assertEqual(all_keeping([told[1]], 2000), all_keeping(rules_told, 2000))

    def test_one_rule_of_one_rule_is_itself(self):
        for rules_told in some_togethers(40, one_base=True, seed=11) + [[rule] for rule in WITHOUT]:
            told = answer(one_rule, rules_told)
            if told is not TooMany:
                self.assertEqual(one_rule([told[1]]), told[1])


class Whole(unittest.TestCase):
    def test_kept_by_just_the_numbers_that_each_keeps(self):
        for rules_told in some_togethers(20, seed=12):
            each_keeps = [set(all_keeping([rule], 600)) for rule in rules_told]
            self.assertEqual(all_keeping(rules_told, 600), sorted(set.intersection(*each_keeps)))

    def test_with_a_rule_more_there_are_no_more(self):
        for rules_told in some_togethers(20, seed=13):
            if len(rules_told) > 1:
                self.assertLessEqual(count_keeping(rules_told, 600), count_keeping(rules_told[1:], 600))


if __name__ == "__main__":
    unittest.main()
