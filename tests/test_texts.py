"""[14] the writings of rules and numbers, and reading them back."""

import random
import re
import unittest

from lackstretch.errors import NoBase, NoNumber, NoRule, NoText
from lackstretch.figures import is_rule
from lackstretch.sums import sum_below
from lackstretch.texts import read_number, read_rule, show_number, show_rule
from tests.by_hand import FORBID_ALL, KINDS, WIDE, WITHOUT, great_numbers, rules
from tests.test_stands import no_rules
from tests.things import BASES, SIGNS, answer, anything, bad_texts, figures_in, is_int, no_numbers, rule_by, write

# What is put into a text or stands in the place of a sign.
MORE_SIGNS = " 0123456789abcdefgABFGz-+._,x\t\n~"
RULE_TEXTS = ["10 13 7", "2", "16", "10", "3 0 1 2", "2 0 01 1", "16 0 a ff ffff", "10 0000 1 12 2", "16 dead f", "9 8",
              "12 1a b", "2 0101 1", "15 e"]


def no_texts():
    return [thing for thing in anything() if type(thing) is not str]


def rule_in(text):
    """The rule that a text writes, or None."""
    if not re.fullmatch(r"([2-9]|1[0-6])( [0-9a-f]{1,4}){0,4}", text):
        return None
    base, *stretches = text.split(" ")
    bad = [figures_in(stretch) for stretch in stretches]
    rises = all(one < other for one, other in zip(bad, bad[1:]))
    within = all(figure < int(base) for stretch in bad for figure in stretch)
    return (int(base), bad) if rises and within else None


def number_in(base, text):
    """The number that a text writes in the base, or None."""
    if not re.fullmatch(r"0|[1-9a-f][0-9a-f]*", text) or any(SIGNS.index(sign) >= base for sign in text):
        return None
    return int(text, base)


def nearly(text):
    """The text with a sign left out, put in or exchanged, and with two neighbours exchanged."""
    for k in range(len(text)):
        yield text[:k] + text[k + 1:]
        yield text[:k] + text[k:k + 2][::-1] + text[k + 2:]
        yield from [text[:k] + sign + text[k + 1:] for sign in MORE_SIGNS]
    for k in range(len(text) + 1):
        yield from [text[:k] + sign + text[k:] for sign in MORE_SIGNS]


class Rules(unittest.TestCase):
    def test_plain_ones(self):
        for rule, text in [
            ((10, [[1, 3], [7]]), "10 13 7"), ((10, []), "10"), ((2, []), "2"),
            ((16, [[15, 10, 0], [15, 15]]), "16 fa0 ff"),
            ((2, [[0], [1]]), "2 0 1"), ((11, [[10]]), "11 a"), ((10, [[0, 0, 0, 0], [0, 1]]), "10 0000 01"),
            ((16, [[0], [13, 14, 10, 13], [14], [15]]), "16 0 dead e f"),
        ]:
            self.assertEqual(show_rule(rule), text)
            self.assertEqual(read_rule(text), rule)

    def test_written_and_read_back(self):
        for rule in rules(100, seed=23) + WITHOUT + FORBID_ALL + [WIDE] + [(base, [[base - 1]]) for base in BASES]:
            text = " ".join([str(rule[0])] + bad_texts(rule))
            self.assertEqual(show_rule(rule), text)
            self.assertEqual(read_rule(text), rule)
            self.assertIs(is_rule(read_rule(text)), True)
            self.assertIs(type(show_rule(rule)), str)

    def test_read_and_written_back(self):
        for text in RULE_TEXTS:
            self.assertEqual(show_rule(read_rule(text)), text)
            self.assertEqual(read_rule(text), rule_in(text))

    def test_no_rule(self):
        for thing in no_rules():
            with self.subTest(thing=type(thing)):
                self.assertRaises(NoRule, show_rule, thing)

    def test_no_text_of_anything(self):
        for thing in no_texts():
            with self.subTest(thing=type(thing)):
                self.assertRaises(NoText, read_rule, thing)

    def test_what_writes_none(self):
        for text in [
            # nothing, blanks, and other words
            "", " ", "  ", "a", "ten", "rule", "(10, [])", "None", "-", "\n", "\t", "10\n", "\n10", "10\t13",
            "10 13\t7",
            # the base
            "0", "1", "17", "20", "99", "100", "010", "02", "002 1", "00", "-10", "+10", "1 0", "a 1", "f", "10.",
            "1e1", "0x10", "1_0", " 10", "10 ", "0 0", "1 0", "17 1", "x 1", "13 7 10 ", "1" * 200,
            # blanks twice, ahead or behind, or none
            "10  13 7", "10 13  7", " 10 13 7", "10 13 7 ", "10 13 7  ", "10   7", "10,13,7", "10-13", "10:7",
            # great letters
            "16 A", "16 F", "16 dEad", "16 fF", "10 13 7A", "16 0 B",
            # figures beyond the base
            "10 a", "10 1a", "2 2", "2 0 2", "3 3", "9 9", "15 f", "8 78", "16 g", "16 z", "4 0 1 2 4", "11 b",
            # stretches that do not rise, or are told twice
            "10 7 13", "10 2 1", "10 12 1", "10 1 1", "10 13 13", "2 1 0", "10 2 1999", "10 1 2 2", "10 3 1 2",
            "16 f e", "10 01 00", "10 1 0001",
            # too long, or five
            "10 12345", "10 00000", "10 1 23456", "2 01010101", "10 1 2 3 4 5", "16 0 1 2 3 4 5", "10 " + "1" * 190,
            # signs that are none
            "10 -1", "10 1.", "10 1,3", "10 [1]", "10 '1'", "10 1\n", "10 \n1", "10 1 \t2", "10 1\t2", "10 1+2",
            "10 _1",
        ]:
            with self.subTest(text=text):
                self.assertIsNone(rule_in(text))
                self.assertRaises(NoText, read_rule, text)

    def test_a_sign_left_out_put_in_or_exchanged(self):
        refused = 0
        for text in RULE_TEXTS:
            for near in nearly(text):
                rule = rule_in(near)
                if rule is None:
                    refused += 1
                self.assertEqual(answer(read_rule, near), NoText if rule is None else (tuple, rule), near)
        self.assertGreater(refused, 3000)

    def test_texts_of_all_sorts(self):
        source = random.Random(24)
        for _ in range(4000):
            text = "".join(source.choice("1012 34 567a f0 ") for _ in range(source.randrange(14)))
            rule = rule_in(text)
            self.assertEqual(answer(read_rule, text), NoText if rule is None else (tuple, rule), text)

    def test_every_base_and_every_figure(self):
        for base in range(40):
            for figure, sign in enumerate(SIGNS):
                rule = (base, [[figure]])
                told = (tuple, rule) if base in BASES and figure < base else NoText
                self.assertEqual(answer(read_rule, f"{base} {sign}"), told)


class Numbers(unittest.TestCase):
    def test_plain_ones(self):
        for base, n, text in [(10, 0, "0"), (2, 0, "0"), (16, 0, "0"), (10, 137, "137"), (16, 255, "ff"), (2, 6, "110"),
                              (16, 16, "10"), (16, 0xdeadbeef, "deadbeef"), (11, 10, "a"), (11, 120, "aa"),
                              (3, 8, "22"), (10, 10 ** 25, "1" + "0" * 25), (16, 16 ** 30 - 1, "f" * 30)]:
            self.assertEqual(show_number(base, n), text)
            self.assertEqual(read_number(base, text), n)

    def test_written_and_read_back(self):
        for base in BASES:
            for n in list(range(300)) + great_numbers(base, 10):
                text = write(base, n)
                self.assertEqual(show_number(base, n), text)
                self.assertEqual(read_number(base, text), n)
                self.assertTrue(is_int(read_number(base, text)))

    def test_told_numbers_however_great(self):
        # Sums of numbers below sums grow beyond what Python itself writes in ten at one go.
        for rule in [(10, []), rule_by(10, "13", "7"), rule_by(16, "f"), rule_by(2, "11")]:
            n = 10 ** 26 - 1
            for _ in range(8 if rule == (10, []) else 4):
                n = sum_below(rule, n)
            for base in [10, 16, rule[0]]:
                text = show_number(base, n)
                self.assertNotEqual(text[0], "0")
                self.assertEqual(read_number(base, text), n)
                for k in [1, 2, 50, 100]:
                    self.assertEqual(SIGNS.index(text[-k]), n // base ** (k - 1) % base)

    def test_two_hundred_signs(self):
        for base in BASES:
            text = SIGNS[base - 1] * 200
            self.assertEqual(read_number(base, text), base ** 200 - 1)
            self.assertEqual(show_number(base, base ** 200 - 1), text)

    def test_no_base_ahead_of_all_else(self):
        for thing in [each for each in anything() if not (is_int(each) and each in BASES)] + [0, 1, 17, True, "10",
                                                                                              None]:
            for other in [0, 7, -1, None, True, "5", "", "x", [5], "01"]:
                with self.subTest(thing=type(thing), other=other):
                    self.assertRaises(NoBase, show_number, thing, other)
                    self.assertRaises(NoBase, read_number, thing, other)

    def test_no_number(self):
        for base in [2, 10, 16]:
            for thing in no_numbers() + [-1, True, False, "0", "", [0], None]:
                with self.subTest(base=base, thing=type(thing)):
                    self.assertRaises(NoNumber, show_number, base, thing)

    def test_no_text_of_anything(self):
        for base in [2, 10, 16]:
            for thing in no_texts():
                with self.subTest(base=base, thing=type(thing)):
                    self.assertRaises(NoText, read_number, base, thing)

    def test_what_writes_none(self):
        for base in BASES:
            for text in ["", " ", "00", "01", "0000", "010", "-1", "+1", " 1", "1 ", "1 1", "1\n", "\n1", "\t1", "1_1",
                         "1.", "A", "F", "1A", "g", "1g", "0x1", "0b1", "x", "none", "[1]", "~", "1,1", "--", "0" * 200,
                         "0" + "1" * 100]:
                with self.subTest(base=base, text=text):
                    self.assertRaises(NoText, read_number, base, text)

    def test_figures_beyond_the_base(self):
        for base in BASES:
            for figure, sign in enumerate(SIGNS):
                self.assertEqual(answer(read_number, base, sign), (int, figure) if figure < base else NoText)
                for text, n in [("1" + sign, base + figure), ("1" + sign + "1", base ** 2 + figure * base + 1)]:
                    self.assertEqual(answer(read_number, base, text), (int, n) if figure < base else NoText)

    def test_a_sign_left_out_put_in_or_exchanged(self):
        for base, text in [(10, "0"), (10, "1307"), (2, "1101"), (16, "9f0a"), (12, "b0b"), (3, "2")]:
            for near in nearly(text):
                n = number_in(base, near)
                self.assertEqual(answer(read_number, base, near), NoText if n is None else (int, n), (base, near))


class Whole(unittest.TestCase):
    def test_two_rules_are_never_written_alike(self):
        texts = [show_rule(rule) for rule in KINDS]
        unlike = {repr(rule) for rule in KINDS}
        self.assertEqual(len(set(texts)), len(unlike))

    def test_a_read_rule_is_new(self):
        told = read_rule("10 13 7")
        told[1][0].append(5)
        told[1].pop()
        self.assertEqual(read_rule("10 13 7"), (10, [[1, 3], [7]]))
        again = [read_rule("10 13 7"), read_rule("10 13 7")]
        lists = [each for one in again for each in [one[1]] + one[1]]
        self.assertEqual(len({id(each) for each in lists}), len(lists))

    def test_a_written_rule_stays(self):
        rule = rule_by(16, "fa", "b")
        self.assertEqual(show_rule(rule), "16 b fa")
        self.assertEqual(rule, rule_by(16, "fa", "b"))


if __name__ == "__main__":
    unittest.main()
