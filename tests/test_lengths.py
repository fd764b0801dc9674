"""[10] the good numbers of just so many figures; [11] whether the good numbers are endless, and the greatest; [3]."""

import itertools
import unittest

from lackstretch.errors import Endless, NoNumber, NoRule
from lackstretch.lengths import count_long, greatest_good, greatest_long, is_endless, least_long, sum_long
from lackstretch.sums import sum_below
from lackstretch.which import count_below, good_by, last_good, next_good
from tests.by_hand import (ENDED, ENDLESS_FEW, FORBID_ALL, PLAIN, WIDE, WITHOUT, Below, goes_on, good_texts,
                           how_many_long, rules)
from tests.test_stands import no_rules
from tests.things import BASES, anything, figures_in, is_int, lacks, rule_by, some_rules, texts_up_to, write

TOP = 1100
BY_LENGTHS = [count_long, least_long, greatest_long, sum_long]


def rules_in_two():
    """Every rule in two of none to two stretches of at most three figures, and every tenth of three such."""
    stretches = sorted(figures_in(text) for text in texts_up_to(2, 3) if text)
    for many in range(3):
        yield from [(2, list(bad)) for bad in itertools.combinations(stretches, many)]
    yield from [(2, list(bad)) for bad in itertools.combinations(stretches, 3)][::10]


class Refusals(unittest.TestCase):
    def test_no_rule_ahead_of_all_else(self):
        for thing in no_rules():
            with self.subTest(thing=type(thing)):
                self.assertRaises(NoRule, is_endless, thing)
                self.assertRaises(NoRule, greatest_good, thing)
                for call in BY_LENGTHS:
                    for m in [0, 1, 60, 61, -1, None, True, "5", [5]]:
                        self.assertRaises(NoRule, call, thing, m)

    def test_no_number(self):
        for rule in [(10, []), (10, [[1, 3], [7]]), (2, [[0], [1]]), (16, [[0]]), (2, [[1]])]:
            for thing in anything() + [0, 61, 62, 100, 10 ** 25, -1, -60, True, False, "1", [1], (1,), None]:
                if is_int(thing) and 1 <= thing <= 60:
                    continue
                for call in BY_LENGTHS:
                    with self.subTest(call=call.__name__, rule=rule, thing=type(thing)):
                        self.assertRaises(NoNumber, call, rule, thing)

    def test_bounds(self):
        for call in BY_LENGTHS:
            for rule in [(10, []), (2, [[0], [1]]), WIDE]:
                call(rule, 1)
                call(rule, 60)
                self.assertRaises(NoNumber, call, rule, 0)
                self.assertRaises(NoNumber, call, rule, 61)

    def test_endless(self):
        for rule in WITHOUT + ENDLESS_FEW + PLAIN + [WIDE]:
            self.assertRaises(Endless, greatest_good, rule)


class Plain(unittest.TestCase):
    def hold(self, rule, m, many, least, greatest, total):
        told = [call(rule, m) for call in BY_LENGTHS]
        self.assertEqual(told, [many, least, greatest, total], (rule, m))

    def test_plain_ones(self):
        rule = (10, [[1, 3], [7]])
        self.hold(rule, 1, 9, 0, 9, 38)
        self.hold(rule, 2, 71, 10, 99, sum(n for n in range(10, 100) if n != 13 and "7" not in str(n)))
        self.hold((10, [[0]]), 1, 9, 1, 9, 45)
        self.hold((10, [[0]]), 3, 729, 111, 999, 729 * 555)
        total = 36 * 9 ** 59 * 10 ** 59 + 8 * 9 ** 58 * 36 * (10 ** 59 - 1) // 9
        self.hold((10, [[9]]), 60, 8 * 9 ** 59, 10 ** 59, 8 * (10 ** 60 - 1) // 9, total)

    def test_no_stretch(self):
        for base in BASES:
            self.hold((base, []), 1, base, 0, base - 1, base * (base - 1) // 2)
            for m in [2, 3, 26, 59, 60]:
                least, over = base ** (m - 1), base ** m
                self.hold((base, []), m, over - least, least, over - 1, (over - least) * (over - 1 + least) // 2)

    def test_all_forbidden(self):
        for rule in FORBID_ALL:
            for m in range(1, 61):
                self.hold(rule, m, 0, None, None, 0)

    def test_one_of_each_length(self):
        for m in range(1, 61):
            ones = 2 ** m - 1
            self.hold((2, [[0]]), m, 1, ones, ones, ones)
            if m > 1:
                self.hold((2, [[1, 0]]), m, 1, ones, ones, ones)
        self.hold((2, [[1, 0]]), 1, 2, 0, 1, 1)

    def test_0_alone(self):
        for rule in [(2, [[1]]), (3, [[1], [2]]), (5, [[1], [2], [3], [4]])]:
            self.hold(rule, 1, 1, 0, 0, 0)
            for m in range(2, 61):
                self.hold(rule, m, 0, None, None, 0)

    def test_stretches_that_begin_with_0(self):
        self.hold(rule_by(3, "01", "00"), 2, 6, 3, 8, 33)
        good = [n for n in range(9, 27) if n not in (9, 10, 18, 19)]
        self.hold(rule_by(3, "01", "00"), 3, 14, int("102", 3), 26, sum(good))


class OneByOne(unittest.TestCase):
    def test_few_figures(self):
        for rule in rules() + [WIDE]:
            base = rule[0]
            good = good_texts(rule, max(TOP, base ** 2))
            m = 1
            while m == 1 or base ** m <= max(TOP, base ** 2):
                long = [int(text, base) for text in good if len(text) == m]
                told = [call(rule, m) for call in BY_LENGTHS]
                ends = [min(long), max(long)] if long else [None, None]
                self.assertEqual(told, [len(long)] + ends + [sum(long)], (rule, m))
                m += 1

    def test_how_many(self):
        for rule in rules(24, seed=52):
            self.assertEqual([count_long(rule, m) for m in range(1, 61)], how_many_long(rule, 60), rule)
        self.assertEqual([count_long(WIDE, m) for m in range(1, 7)], how_many_long(WIDE, 6))


class Great(unittest.TestCase):
    def test_by_hand(self):
        for k, rule in enumerate(rules(20, seed=62)):
            base = rule[0]
            for m in [60, 7 + k % 40]:
                shorter, within = Below(rule, base ** (m - 1)), Below(rule, base ** m)
                self.assertEqual(count_long(rule, m), within.many - shorter.many, (rule, m))
                self.assertEqual(sum_long(rule, m), within.total - shorter.total, (rule, m))
                least, greatest = least_long(rule, m), greatest_long(rule, m)
                if within.many == shorter.many:
                    self.assertEqual([least, greatest], [None, None], (rule, m))
                    continue
                for told in [least, greatest]:
                    self.assertEqual(len(write(base, told)), m, (rule, m))
                    self.assertTrue(lacks(rule, write(base, told)), (rule, m))
                self.assertEqual(Below(rule, least).many, shorter.many, (rule, m))
                self.assertEqual(Below(rule, greatest).many, within.many - 1, (rule, m))

    def test_kinds(self):
        for rule in rules(8, seed=112):
            for m in [1, 2, 60]:
                self.assertTrue(is_int(count_long(rule, m)) and is_int(sum_long(rule, m)))
                for told in [least_long(rule, m), greatest_long(rule, m)]:
                    self.assertTrue(told is None or is_int(told))

    def test_as_the_other_stages_tell(self):
        for rule in rules(20, seed=72) + [WIDE]:
            base = rule[0]
            for m in [2, 3, 25, 60]:
                many = count_below(rule, base ** m) - count_below(rule, base ** (m - 1))
                total = sum_below(rule, base ** m) - sum_below(rule, base ** (m - 1))
                least = next_good(rule, base ** (m - 1)) if many else None
                greatest = last_good(rule, base ** m) if many else None
                told = [call(rule, m) for call in BY_LENGTHS]
                self.assertEqual(told, [many, least, greatest, total], (rule, m))


class EndlessOrNot(unittest.TestCase):
    def test_plain_ones(self):
        for rule in WITHOUT + ENDLESS_FEW + PLAIN + [WIDE, (2, [[0]]), (10, [[0], [1], [2], [3]])]:
            self.assertIs(is_endless(rule), True, rule)
        for rule in FORBID_ALL:
            self.assertIs(is_endless(rule), False, rule)
            self.assertIsNone(greatest_good(rule), rule)
        for texts, greatest in [(("1",), 0), (("0", "11"), 1), (("0", "111"), 3), (("0", "1111"), 7),
                                (("00", "01", "10", "11"), 1), (("00", "11", "010", "101"), 2),
                                (("0000", "01", "1111"), int("111000", 2))]:
            self.assertIs(is_endless(rule_by(2, *texts)), False)
            self.assertEqual(greatest_good(rule_by(2, *texts)), greatest)

    def test_greatest_by_going_through(self):
        for rule in ENDED + list(rules_in_two()) + some_rules(100, bases=[2, 3], seed=82):
            if goes_on(rule):
                self.assertIs(is_endless(rule), True, rule)
                self.assertRaises(Endless, greatest_good, rule)
                continue
            texts = good_texts(rule, 300)
            self.assertIs(is_endless(rule), False, rule)
            self.assertEqual(greatest_good(rule), int(texts[-1], rule[0]) if texts else None, rule)

    def test_rules_of_all_kinds(self):
        for rule in rules(100, seed=92):
            self.assertIs(is_endless(rule), goes_on(rule), rule)

    def test_endless_where_there_are_some_of_every_number_of_figures(self):
        for rule in rules(24, seed=102) + list(rules_in_two())[::3]:
            self.assertIs(is_endless(rule), all(count_long(rule, m) > 0 for m in [1, 2, 3, 13, 14, 30, 60]), rule)

    def test_the_greatest_has_all_others_below_it(self):
        for rule in ENDED:
            greatest = greatest_good(rule)
            k = count_below(rule, greatest)
            self.assertEqual(good_by(rule, k), greatest)
            self.assertIsNone(good_by(rule, k + 1))
            self.assertIsNone(next_good(rule, greatest + 1))


if __name__ == "__main__":
    unittest.main()
