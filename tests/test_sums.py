"""[9] the sum of the good numbers below, the sum of their figures, how often a figure stands in them; [3]."""

import unittest

from lackstretch.errors import NoFigures, NoNumber, NoRule
from lackstretch.figures import figures_of, is_good
from lackstretch.sums import figures_below, often_below, sum_below
from lackstretch.which import count_below
from tests.by_hand import FORBID_ALL, KINDS, WIDE, Below, few_numbers, good_texts, great_numbers, rules
from tests.test_stands import no_rules
from tests.things import BASES, SIGNS, anything, is_int, no_numbers, rule_by, some_rules

TOP = 700


def figure_sum(text):
    return sum(SIGNS.index(sign) for sign in text)


class Refusals(unittest.TestCase):
    def test_no_rule_ahead_of_all_else(self):
        for thing in no_rules():
            for n in [0, 7, -1, None, True, "5", [5]]:
                with self.subTest(thing=type(thing), n=n):
                    self.assertRaises(NoRule, sum_below, thing, n)
                    self.assertRaises(NoRule, figures_below, thing, n)
                    for figure in [0, 1, 99, None, True]:
                        self.assertRaises(NoRule, often_below, thing, n, figure)

    def test_no_number(self):
        for rule in [(10, []), (10, [[1, 3], [7]]), (2, [[0], [1]]), (16, [[0]])]:
            for thing in no_numbers() + [-1, -10 ** 25, True, False, "0", [0], (0,), None]:
                with self.subTest(rule=rule, thing=type(thing)):
                    self.assertRaises(NoNumber, sum_below, rule, thing)
                    self.assertRaises(NoNumber, figures_below, rule, thing)

    def test_no_number_ahead_of_no_figures(self):
        for rule in [(10, []), (10, [[1, 3], [7]]), (2, [[0], [1]])]:
            for thing in no_numbers():
                for figure in [0, 1, rule[0], -1, None, True, "1", [1]]:
                    with self.subTest(rule=rule, thing=type(thing), figure=figure):
                        self.assertRaises(NoNumber, often_below, rule, thing, figure)

    def test_no_figures(self):
        for rule in [(10, []), (10, [[1, 3], [7]]), (2, [[0], [1]]), (16, [[0]]), (3, [])]:
            for thing in anything() + [rule[0], -1, True, False, [0], [1], (1,), "1"]:
                if is_int(thing) and 0 <= thing < rule[0]:
                    continue
                for n in [0, 1, 13, 10 ** 20]:
                    with self.subTest(rule=rule, n=n, thing=type(thing)):
                        self.assertRaises(NoFigures, often_below, rule, n, thing)


class Plain(unittest.TestCase):
    def test_plain_ones(self):
        rule = (10, [[1, 3], [7]])
        self.assertEqual(sum_below(rule, 0), 0)
        self.assertEqual(sum_below(rule, 1), 0)
        self.assertEqual(sum_below(rule, 10), 38)
        self.assertEqual(sum_below(rule, 14), 38 + 10 + 11 + 12)
        self.assertEqual(figures_below(rule, 10), 38)
        self.assertEqual(figures_below(rule, 14), 38 + 1 + 2 + 3)
        self.assertEqual(often_below(rule, 14, 1), 1 + 1 + 2 + 1)
        self.assertEqual(often_below(rule, 14, 2), 2)
        self.assertEqual(often_below(rule, 14, 3), 1)
        self.assertEqual(often_below(rule, 10 ** 20, 7), 0)

    def test_how_often_0(self):
        self.assertEqual(often_below((10, []), 0, 0), 0)
        self.assertEqual(often_below((10, []), 1, 0), 1)
        self.assertEqual(often_below((10, []), 10, 0), 1)
        self.assertEqual(often_below((10, []), 11, 0), 2)
        self.assertEqual(often_below((10, []), 101, 0), 12)
        self.assertEqual(often_below((10, [[0]]), 10 ** 20, 0), 0)
        self.assertEqual(often_below((10, [[0, 0]]), 101, 0), 10)
        self.assertEqual(often_below((2, [[1]]), 10 ** 20, 0), 1)
        self.assertEqual(often_below((2, [[1]]), 0, 0), 0)

    def test_no_stretch(self):
        for base in BASES:
            rule = (base, [])
            for n in few_numbers(base, TOP) + great_numbers(base):
                self.assertEqual(sum_below(rule, n), n * (n - 1) // 2)
            for size in range(1, 25):
                every = size * base ** (size - 1)
                self.assertEqual(figures_below(rule, base ** size), every * base * (base - 1) // 2)
                for figure in range(1, base):
                    self.assertEqual(often_below(rule, base ** size, figure), every)
                ahead = sum(base ** k for k in range(1, size))
                self.assertEqual(often_below(rule, base ** size, 0), every - ahead)

    def test_all_forbidden(self):
        for rule in FORBID_ALL:
            for n in few_numbers(rule[0], TOP) + great_numbers(rule[0]):
                self.assertEqual(sum_below(rule, n), 0)
                self.assertEqual(figures_below(rule, n), 0)
                for figure in range(rule[0]):
                    self.assertEqual(often_below(rule, n, figure), 0)


class OneByOne(unittest.TestCase):
    def hold(self, rule, good, n):
        base = rule[0]
        below = [text for text in good if int(text, base) < n]
        self.assertEqual(sum_below(rule, n), sum(int(text, base) for text in below), (rule, n))
        self.assertEqual(figures_below(rule, n), sum(figure_sum(text) for text in below), (rule, n))
        for figure in sorted({0, 1, base - 1, n % base, n // 3 % base}):
            often = "".join(below).count(SIGNS[figure])
            self.assertEqual(often_below(rule, n, figure), often, (rule, n, figure))

    def test_every_number(self):
        for rule in KINDS[::7] + some_rules(2, seed=32):
            good = good_texts(rule, TOP)
            for n in range(130):
                self.hold(rule, good, n)

    def test_some_numbers(self):
        for rule in rules() + [WIDE]:
            good = good_texts(rule, TOP)
            for n in few_numbers(rule[0], TOP)[::3] + [TOP - 1, TOP]:
                self.hold(rule, good, n)

    def test_every_figure(self):
        for rule in rules(20, seed=42) + [WIDE]:
            good = good_texts(rule, TOP)
            for figure in range(rule[0]):
                self.assertEqual(often_below(rule, TOP, figure), "".join(good).count(SIGNS[figure]), (rule, figure))


class Great(unittest.TestCase):
    def test_by_hand(self):
        for rule in rules(20, seed=62):
            for k, n in enumerate(great_numbers(rule[0], 1)):
                figure = (k * 5) % rule[0]
                below = Below(rule, n, figure)
                self.assertEqual(sum_below(rule, n), below.total, (rule, n))
                self.assertEqual(figures_below(rule, n), below.figures, (rule, n))
                self.assertEqual(often_below(rule, n, figure), below.often, (rule, n, figure))

    def test_figures_are_as_often_as_each(self):
        for rule in rules(20, seed=72) + [WIDE]:
            for n in great_numbers(rule[0], 1):
                often = [often_below(rule, n, figure) for figure in range(rule[0])]
                self.assertEqual(figures_below(rule, n), sum(k * each for k, each in enumerate(often)))

    def test_told_ones(self):
        for rule in [(10, [[1, 3], [7]]), (2, [[1, 1, 1]]), (16, [[0, 0], [15]]), (10, [])]:
            n = 10 ** 26 - 1
            for _ in range(2):
                n = sum_below(rule, n)
                below = Below(rule, n)
                self.assertEqual(sum_below(rule, n), below.total)
                self.assertEqual(figures_below(rule, n), below.figures)
                self.assertEqual(often_below(rule, n, 0), below.often)
        for _ in range(3):
            n = sum_below((10, []), n)
            self.assertEqual(sum_below((10, []), n), n * (n - 1) // 2)


class Whole(unittest.TestCase):
    def test_from_one_number_to_the_next(self):
        for rule in rules(16, seed=92) + [WIDE]:
            for n in great_numbers(rule[0], 2) + [0, 1, rule[0]]:
                figures = figures_of(rule[0], n) if is_good(rule, n) else []
                self.assertEqual(sum_below(rule, n + 1) - sum_below(rule, n), n if figures else 0)
                self.assertEqual(figures_below(rule, n + 1) - figures_below(rule, n), sum(figures))
                for figure in [0, 1, rule[0] - 1]:
                    more = often_below(rule, n + 1, figure) - often_below(rule, n, figure)
                    self.assertEqual(more, figures.count(figure))

    def test_0_ahead_of_a_number_is_none_of_its_figures(self):
        rule = rule_by(10, "01", "005")
        self.assertEqual(sum_below(rule, 100), 4950)
        self.assertEqual(sum_below(rule, 103), 4950 + 100 + 102)
        self.assertEqual(often_below(rule, 100, 0), 10)

    def test_kinds(self):
        for rule in rules(8, seed=113):
            for n in [0, 1, 2, rule[0], 777, 10 ** 20]:
                for told in [sum_below(rule, n), figures_below(rule, n), often_below(rule, n, 1)]:
                    self.assertTrue(is_int(told))

    def test_sums_are_of_as_many_as_are_counted(self):
        for rule in rules(16, seed=93):
            for n in great_numbers(rule[0], 1):
                self.assertLessEqual(sum_below(rule, n), count_below(rule, n) * max(n - 1, 0))


if __name__ == "__main__":
    unittest.main()
