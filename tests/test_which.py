"""[7] how many good numbers lie below, the so-manieth and its place; [8] the next one and the last one; [3]."""

import bisect
import random
import unittest

from lackstretch.errors import NoGood, NoNumber, NoRule, TooMany
from lackstretch.figures import figures_of, is_good
from lackstretch.sums import sum_below
from lackstretch.which import count_below, good_by, last_good, next_good, place_of
from tests.by_hand import (ENDED, ENDLESS_FEW, FORBID_ALL, KINDS, WIDE, WITHOUT, Below, few_numbers, goes_on,
                           good_numbers, great_numbers, rules)
from tests.test_stands import no_rules
from tests.things import BASES, anything, calls_of, is_int, lacks, no_numbers, rule_by, some_rules, write

TOP = 1100
BY_NUMBERS = [count_below, good_by, next_good, last_good]


def answer(call, *handed):
    try:
        return call(*handed)
    except TooMany:
        return TooMany


class Refusals(unittest.TestCase):
    def test_no_rule_ahead_of_all_else(self):
        for thing in no_rules():
            for call in BY_NUMBERS + [place_of]:
                for n in [0, 7, -1, None, True, "5", [5]]:
                    with self.subTest(call=call.__name__, thing=type(thing), n=n):
                        self.assertRaises(NoRule, call, thing, n)

    def test_no_number(self):
        for rule in [(10, []), (10, [[1, 3], [7]]), (2, [[0], [1]]), (16, [[0]])]:
            for thing in no_numbers() + [-1, -10 ** 25, True, False, "0", [0], (0,), None]:
                for call in BY_NUMBERS:
                    with self.subTest(call=call.__name__, rule=rule, thing=type(thing)):
                        self.assertRaises(NoNumber, call, rule, thing)

    def test_no_good(self):
        for rule in [(10, []), (10, [[1, 3], [7]]), (2, [[0], [1]]), (16, [[0]]), (2, [[1, 0]])]:
            for thing in anything() + [-1, True, False, 13, 17, 70, 1130, 10 ** 25 + 7, "0", [0], (0,)]:
                if is_int(thing) and thing >= 0 and lacks(rule, write(rule[0], thing)):
                    continue
                with self.subTest(rule=rule, thing=type(thing)):
                    self.assertRaises(NoGood, place_of, rule, thing)

    def test_no_good_where_0_is_bad(self):
        self.assertRaises(NoGood, place_of, (10, [[0]]), 0)
        self.assertRaises(NoGood, place_of, (10, [[0]]), 10)
        self.assertRaises(NoGood, place_of, (2, [[0], [1]]), 0)
        self.assertRaises(NoGood, place_of, (2, [[0], [1]]), 1)


class Plain(unittest.TestCase):
    rule = (10, [[1, 3], [7]])

    def test_count_below(self):
        for n, many in [(0, 0), (1, 1), (7, 7), (8, 7), (13, 12), (14, 12), (100, 80)]:
            self.assertEqual(count_below(self.rule, n), many, n)

    def test_good_by(self):
        for k, n in [(0, 0), (1, 1), (6, 6), (7, 8), (11, 12), (12, 14), (79, 99), (80, 100)]:
            self.assertEqual(good_by(self.rule, k), n)
            self.assertEqual(place_of(self.rule, n), k)

    def test_next_good(self):
        for n, told in [(0, 0), (6, 6), (7, 8), (13, 14), (17, 18), (70, 80), (69, 69), (130, 140), (1299, 1299),
                        (1300, 1400), (7 * 10 ** 24, 8 * 10 ** 24)]:
            self.assertEqual(next_good(self.rule, n), told)

    def test_last_good(self):
        for n, told in [(0, None), (1, 0), (7, 6), (8, 6), (14, 12), (13, 12), (80, 69), (140, 129), (100, 99)]:
            self.assertEqual(last_good(self.rule, n), told)

    def test_0_itself(self):
        for rule in [(10, []), (2, [[1]]), (10, [[0, 0]]), (2, [[0, 0], [0, 1], [1]]), (10, [[1]])]:
            told = [count_below(rule, 0), count_below(rule, 1), good_by(rule, 0), place_of(rule, 0), next_good(rule, 0),
                    last_good(rule, 0), last_good(rule, 1)]
            self.assertEqual(told, [0, 1, 0, 0, 0, None, 0], rule)

    def test_0_forbidden(self):
        for rule in [(10, [[0]]), (2, [[0]]), (3, [[0], [0, 0]])]:
            told = [count_below(rule, 0), count_below(rule, 1), count_below(rule, 2), good_by(rule, 0),
                    place_of(rule, 1), next_good(rule, 0), last_good(rule, 0), last_good(rule, 1), last_good(rule, 2)]
            self.assertEqual(told, [0, 0, 1, 1, 0, 1, None, None, 1], rule)

    def test_0_ahead_of_a_number_is_none_of_its_figures(self):
        rule = rule_by(10, "01", "005")
        self.assertEqual(count_below(rule, 10), 10)
        self.assertEqual(count_below(rule, 101), 101)
        self.assertEqual(count_below(rule, 102), 101)
        self.assertEqual(good_by(rule, 5), 5)
        self.assertEqual(next_good(rule, 1), 1)
        self.assertEqual(last_good(rule, 102), 100)

    def test_no_stretch(self):
        for base in BASES:
            for n in few_numbers(base, TOP) + great_numbers(base):
                self.assertEqual(count_below((base, []), n), n)
                self.assertEqual(place_of((base, []), n), n)
                self.assertEqual(next_good((base, []), n), n)
                self.assertEqual(last_good((base, []), n), n - 1 if n else None)
                self.assertEqual(answer(good_by, (base, []), n), n if n < base ** 60 else TooMany)

    def test_all_forbidden(self):
        for rule in FORBID_ALL:
            for n in few_numbers(rule[0], TOP) + great_numbers(rule[0]):
                self.assertEqual(count_below(rule, n), 0)
                self.assertIsNone(good_by(rule, n))
                self.assertIsNone(next_good(rule, n))
                self.assertIsNone(last_good(rule, n))
                self.assertRaises(NoGood, place_of, rule, n)


class OneByOne(unittest.TestCase):
    def hold(self, rule, good, n):
        k = bisect.bisect_left(good, n)
        self.assertEqual(count_below(rule, n), k, (rule, n))
        self.assertEqual(last_good(rule, n), good[k - 1] if k else None, (rule, n))
        if k < len(good):
            self.assertEqual(next_good(rule, n), good[k], (rule, n))
            self.assertEqual(good_by(rule, k), good[k], (rule, k))
            self.assertEqual(place_of(rule, good[k]), k, (rule, good[k]))
        elif goes_on(rule):
            self.assertGreaterEqual(next_good(rule, n), TOP, (rule, n))
        else:
            self.assertIsNone(next_good(rule, n), (rule, n))

    def test_every_number(self):
        for rule in KINDS[::4] + some_rules(4, seed=31):
            good = good_numbers(rule, TOP)
            for n in range(300):
                self.hold(rule, good, n)

    def test_some_numbers(self):
        for rule in rules() + [WIDE]:
            good = good_numbers(rule, TOP)
            for n in few_numbers(rule[0], TOP):
                self.hold(rule, good, n)

    def test_every_place(self):
        for rule in rules(12, seed=41):
            good = good_numbers(rule, TOP)
            for k in list(range(min(len(good), 60))) + list(range(len(good)))[-10:]:
                self.assertEqual(good_by(rule, k), good[k], (rule, k))
                self.assertEqual(place_of(rule, good[k]), k, (rule, k))

    def test_ended(self):
        for rule in ENDED + [rule for rule in some_rules(150, bases=[2, 3], seed=51) if not goes_on(rule)]:
            good = good_numbers(rule, TOP)
            self.assertEqual([good_by(rule, k) for k in range(len(good))], good)
            greatest = good[-1] if good else None
            for k in [len(good), len(good) + 1, 60, 10 ** 25, 10 ** 70]:
                self.assertIsNone(good_by(rule, max(k, len(good))), rule)
            for n in [TOP, 10 ** 25, 10 ** 70]:
                self.assertEqual(count_below(rule, n), len(good))
                self.assertEqual(last_good(rule, n), greatest)
                self.assertIsNone(next_good(rule, n))
            if good:
                self.assertEqual(next_good(rule, greatest), greatest)
                self.assertIsNone(next_good(rule, greatest + 1))
                self.assertEqual(last_good(rule, greatest + 1), greatest)


class Great(unittest.TestCase):
    def test_count_below(self):
        for rule in rules(20, seed=61):
            for n in great_numbers(rule[0], 2):
                self.assertEqual(count_below(rule, n), Below(rule, n).many, (rule, n))

    def test_known_ones(self):
        for size in [1, 2, 10, 26]:
            self.assertEqual(count_below((10, [[7]]), 10 ** size), 9 ** size)
            self.assertEqual(count_below((10, [[0]]), 10 ** size), sum(9 ** k for k in range(1, size + 1)))
        few, more = 1, 2
        for size in range(1, 86):
            self.assertEqual(count_below((2, [[1, 1]]), 2 ** size), more)
            few, more = more, few + more

    def test_next_and_last(self):
        for rule in rules(20, seed=71):
            for n in great_numbers(rule[0], 1):
                many = Below(rule, n).many
                told = next_good(rule, n)
                if told is None:
                    self.assertFalse(goes_on(rule))
                else:
                    self.assertGreaterEqual(told, n)
                    self.assertTrue(lacks(rule, write(rule[0], told)), (rule, n))
                    self.assertEqual(Below(rule, told).many, many, (rule, n))
                told = last_good(rule, n)
                if told is None:
                    self.assertEqual(many, 0)
                else:
                    self.assertLess(told, n)
                    self.assertTrue(lacks(rule, write(rule[0], told)), (rule, n))
                    self.assertEqual(Below(rule, told).many, many - 1, (rule, n))

    def test_however_many_figures(self):
        rule = (2, [[1, 0]])
        n = 10 ** 26 - 1
        for size in range(87, 140):
            self.assertEqual(next_good(rule, n), 2 ** size - 1)
            self.assertEqual(last_good(rule, 2 ** size - 1), 2 ** (size - 1) - 1)
            n = 2 ** size
        self.assertEqual(next_good((2, [[0, 0], [1, 1]]), 2 ** 299), int("10" * 150, 2))
        self.assertEqual(next_good((10, [[0]]), 10 ** 300), int("1" * 301))
        self.assertEqual(next_good((10, [[9]]), int("9" * 300)), 10 ** 300)
        self.assertEqual(last_good((10, [[9]]), 10 ** 300), int("8" * 300))

    def test_told_ones(self):
        for rule in [(10, [[1, 3], [7]]), (2, [[1, 1, 1]]), WIDE, (16, [])]:
            n = 10 ** 26 - 1
            for _ in range(4):
                n = sum_below(rule, n)
                told = next_good(rule, n)
                self.assertTrue(is_good(rule, told))
                self.assertEqual(place_of(rule, told), count_below(rule, n))
                self.assertEqual(count_below(rule, told + 1), count_below(rule, n) + 1)
                self.assertEqual(last_good(rule, told + 1), told)
                self.assertEqual(last_good(rule, told), last_good(rule, n))


class GreatPlaces(unittest.TestCase):
    def test_by_hand(self):
        source = random.Random(81)
        for rule in rules(12, seed=81):
            sixty = Below(rule, rule[0] ** 60).many
            for k in [source.randrange(10 ** 26), source.randrange(10 ** 18), source.randrange(10 ** 9), 70]:
                told = answer(good_by, rule, k)
                if k >= sixty:
                    self.assertEqual(told, TooMany if goes_on(rule) else None, (rule, k))
                else:
                    self.assertTrue(lacks(rule, write(rule[0], told)), (rule, k))
                    self.assertEqual(Below(rule, told).many, k, (rule, k))
                    self.assertEqual(place_of(rule, told), k)

    def test_sixty_figures_and_one_more(self):
        for rule in WITHOUT + ENDLESS_FEW + [(10, [[0]]), (10, [[1, 3], [7]]), (2, [[1, 1]]), (16, [[15]]), WIDE]:
            many = count_below(rule, rule[0] ** 60)
            told = good_by(rule, many - 1)
            self.assertEqual(len(figures_of(rule[0], told)), 60, rule)
            self.assertEqual(told, last_good(rule, rule[0] ** 60))
            for k in [many, many + 1, many * 10, 10 ** 100]:
                self.assertRaises(TooMany, good_by, rule, k)

    def test_one_of_each_length(self):
        for k in range(1, 61):
            self.assertEqual(good_by((2, [[1, 0]]), k), 2 ** k - 1)
            self.assertEqual(good_by((2, [[0]]), k - 1), 2 ** k - 1)
        self.assertRaises(TooMany, good_by, (2, [[1, 0]]), 61)
        self.assertRaises(TooMany, good_by, (2, [[0]]), 60)
        self.assertRaises(TooMany, good_by, (2, [[1, 0]]), 10 ** 25)

    def test_no_stretch(self):
        for base in BASES:
            for n in [base ** 60 - 1, base ** 59, base ** 59 - 1]:
                self.assertEqual(good_by((base, []), n), n)
            self.assertRaises(TooMany, good_by, (base, []), base ** 60)


class Whole(unittest.TestCase):
    def test_one_more_below_a_good_number_and_the_next(self):
        for rule in rules(16, seed=91) + [WIDE]:
            for n in great_numbers(rule[0], 2) + [0, 1, rule[0]]:
                good = is_good(rule, n)
                self.assertEqual(count_below(rule, n + 1) - count_below(rule, n), 1 if good else 0)
                self.assertEqual(next_good(rule, n) == n, good)
                self.assertEqual(last_good(rule, n + 1) == n, good)
                if good:
                    self.assertEqual(place_of(rule, n), count_below(rule, n))

    def test_with_a_stretch_more_there_are_no_more(self):
        for rule in rules(16, seed=101):
            for k in range(len(rule[1])):
                fewer = (rule[0], rule[1][:k] + rule[1][k + 1:])
                for n in [rule[0], 500, 10 ** 20]:
                    self.assertLessEqual(count_below(rule, n), count_below(fewer, n))

    def test_a_stretch_within_which_another_stands_changes_nothing(self):
        for more, fewer in [(("1234", "23"), ("23",)), (("1", "10", "100", "1000"), ("1",)), (("9", "99"), ("9",))]:
            for n in few_numbers(10, TOP) + great_numbers(10):
                for call in BY_NUMBERS:
                    self.assertEqual(call(rule_by(10, *more), n), call(rule_by(10, *fewer), n))


    def test_kinds(self):
        for rule in rules(8, seed=111):
            for n in [0, 1, 2, rule[0], 777, 10 ** 20]:
                for call in BY_NUMBERS:
                    told = answer(call, rule, n)
                    self.assertTrue(told is None or told is TooMany or is_int(told), (call, rule, n))
                for told in [count_below(rule, n), sum_below(rule, n)]:
                    self.assertTrue(is_int(told))
                if is_good(rule, n):
                    self.assertTrue(is_int(place_of(rule, n)))


class Work(unittest.TestCase):
    def test_good_numbers_are_not_gone_through(self):
        for rule in [(2, []), (2, [[1, 1, 1]]), (10, [[1, 3], [7]]), WIDE]:
            for call in BY_NUMBERS:
                n = rule[0] ** 20 - 1
                self.assertLess(calls_of(call, rule, n), 60000, (call, rule))

    def test_nothing_of_a_stand_and_figures_left_is_reckoned_anew(self):
        for rule in [(2, []), (2, [[1, 1, 1]]), (10, [[1, 3], [7]]), WIDE]:
            for call in [count_below, next_good, last_good, sum_below]:
                few = calls_of(call, rule, rule[0] ** 50 - 1)
                many = calls_of(call, rule, rule[0] ** 200 - 1)
                self.assertLess(many, 6 * few, (call, rule))


if __name__ == "__main__":
    unittest.main()
