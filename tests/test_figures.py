"""[4] figures of a number, and the number of figures."""

import random
import unittest

from lackstretch.errors import NoBase, NoFigures, NoNumber
from lackstretch.figures import figures_of, number_by
from tests.things import BASES, SIGNS, anything, figures_in, is_int, text_of, write

MOST = 10 ** 26 - 1


def numbers(base):
    """0, small numbers, powers of the base with their neighbours, and numbers to twenty-six figures in ten."""
    told = list(range(3 * base * base))
    power = base
    while power <= MOST:
        told += [power - 1, power, power + 1]
        power *= base
    source = random.Random(base)
    told += [source.randrange(10 ** size) for size in range(1, 27) for _ in range(4)]
    return told + [MOST, MOST - 1, 10 ** 25]


def long_lists(base):
    """Lists of one to ninety figures, the first no 0."""
    source = random.Random(base)
    for size in list(range(1, 91)) + [90] * 5:
        yield [source.randrange(1, base)] + [source.randrange(base) for _ in range(size - 1)]
    yield [1] + [0] * 89
    yield [base - 1] * 90


def is_figures(base, thing):
    if type(thing) is not list or not all(is_int(each) and 0 <= each < base for each in thing):
        return False
    return thing == [0] or (len(thing) > 0 and thing[0] > 0)


class FiguresOf(unittest.TestCase):
    def test_plain_ones(self):
        self.assertEqual(figures_of(10, 0), [0])
        self.assertEqual(figures_of(2, 0), [0])
        self.assertEqual(figures_of(16, 0), [0])
        self.assertEqual(figures_of(10, 137), [1, 3, 7])
        self.assertEqual(figures_of(2, 6), [1, 1, 0])
        self.assertEqual(figures_of(16, 255), [15, 15])
        self.assertEqual(figures_of(16, 256), [1, 0, 0])
        self.assertEqual(figures_of(3, 26), [2, 2, 2])
        self.assertEqual(figures_of(10, MOST), [9] * 26)

    def test_every_base(self):
        for base in BASES:
            for n in numbers(base):
                told = figures_of(base, n)
                self.assertEqual(told, figures_in(write(base, n)), (base, n))
                self.assertEqual(int(text_of(told), base), n)
                self.assertTrue(is_figures(base, told), (base, n, told))

    def test_there_and_back(self):
        for base in BASES:
            for n in numbers(base):
                self.assertEqual(number_by(base, figures_of(base, n)), n)

    def test_no_base(self):
        for thing in anything():
            if not (is_int(thing) and 2 <= thing <= 16):
                for n in [0, 5, -1, None, "5", [5]]:
                    with self.subTest(thing=type(thing), n=n):
                        self.assertRaises(NoBase, figures_of, thing, n)

    def test_bounds_of_the_base(self):
        for base in [-10, -2, 0, 1, 17, 18, 100, 10 ** 30]:
            self.assertRaises(NoBase, figures_of, base, 0)
        self.assertEqual(figures_of(2, 2), [1, 0])
        self.assertEqual(figures_of(16, 16), [1, 0])

    def test_no_number(self):
        for base in BASES:
            for thing in anything():
                if not (is_int(thing) and thing >= 0):
                    with self.subTest(base=base, thing=type(thing)):
                        self.assertRaises(NoNumber, figures_of, base, thing)


class NumberBy(unittest.TestCase):
    def test_plain_ones(self):
        self.assertEqual(number_by(10, [0]), 0)
        self.assertEqual(number_by(10, [1, 3, 7]), 137)
        self.assertEqual(number_by(2, [1, 1, 0]), 6)
        self.assertEqual(number_by(16, [15, 15]), 255)
        self.assertEqual(number_by(7, [6]), 6)

    def test_long_lists_there_and_back(self):
        for base in BASES:
            for figures in long_lists(base):
                told = number_by(base, figures)
                self.assertTrue(is_int(told))
                self.assertEqual(told, int(text_of(figures), base))
                self.assertEqual(figures_of(base, told), figures)

    def test_no_base(self):
        for thing in anything():
            if not (is_int(thing) and 2 <= thing <= 16):
                for figures in [[0], [1], [], [0, 1], None, "1"]:
                    with self.subTest(thing=type(thing), figures=figures):
                        self.assertRaises(NoBase, number_by, thing, figures)
        for base in [-2, 0, 1, 17, 10 ** 30, True]:
            self.assertRaises(NoBase, number_by, base, [0])

    def test_no_figures(self):
        for base in BASES:
            for thing in anything():
                if not is_figures(base, thing):
                    with self.subTest(base=base, thing=type(thing)):
                        self.assertRaises(NoFigures, number_by, base, thing)

    def test_no_figures_of_a_number(self):
        for base in BASES:
            wrong = [[], [0, 0], [0, 1], [0, 1, 1], [base], [1, base], [base, 1], [1, base, 1], [-1], [1, -1],
                     [1, -1, 1], [True], [False], [1, True], [True, 0], [1, False], ["1"], [1, "0"], "1", "10", (1,),
                     (1, 0), ((1,),), [[1]], [1, [0]], [1, None], [(1,)], {}, {0: 1}, None, 1, 0, True, False,
                     [10 ** 30], [1] * 89 + [base], [0] + [1] * 89]
            for figures in wrong:
                with self.subTest(base=base, figures=figures):
                    self.assertRaises(NoFigures, number_by, base, figures)

    def test_the_greatest_figure_is_the_base_less_one(self):
        for base in BASES:
            self.assertEqual(number_by(base, [base - 1]), base - 1)
            self.assertEqual(number_by(base, figures_in(SIGNS[1:base])), int(SIGNS[1:base], base))


if __name__ == "__main__":
    unittest.main()
