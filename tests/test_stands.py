"""[6] the stand behind figures, all stands, and the step from a stand by a figure."""

import itertools
import random
import unittest

from lackstretch.errors import NoFigures, NoRule, NoStand
from lackstretch.stands import all_stands, stand_behind, step_from
from tests.test_rules import JUST_NONE, is_rule_by_hand
from tests.things import BASES, anything, figures_in, is_int, rule_by, some_rules, stand_text, text_of, texts_up_to


def narrow_rules():
    """Every rule of base 2 with none to two stretches of one to three figures, and some of more."""
    stretches = [figures_in(text) for text in texts_up_to(2, 3) if text]
    for many in range(3):
        for bad in itertools.combinations(sorted(stretches), many):
            yield (2, list(bad))
    yield from some_rules(60, bases=[2, 3])


def figures_to_stand(rule, text):
    told = stand_text(rule, text)
    return None if told is None else figures_in(told)


def stands_by_hand(rule):
    """Every stand that comes behind figures; a stand has fewer than four figures, and stands behind itself."""
    used = sorted({figure for stretch in rule[1] for figure in stretch})
    lists = [list(each) for size in range(4) for each in itertools.product(used, repeat=size)]
    told = [figures_to_stand(rule, text_of(each)) for each in lists]
    unlike = {tuple(each) for each in told if each is not None}
    return [list(each) for each in sorted(unlike, key=lambda each: (len(each), each))]


def are_figures(base, thing):
    return type(thing) is list and all(is_int(each) and 0 <= each < base for each in thing)


def no_rules():
    return JUST_NONE + [thing for thing in anything() if not is_rule_by_hand(thing)]


class StandBehind(unittest.TestCase):
    def test_plain_ones(self):
        rule = rule_by(10, "1234", "237")
        self.assertEqual(stand_behind(rule, []), [])
        self.assertEqual(stand_behind(rule, [5]), [])
        self.assertEqual(stand_behind(rule, [5, 1]), [1])
        self.assertEqual(stand_behind(rule, [1, 2, 3]), [1, 2, 3])
        self.assertEqual(stand_behind(rule, [0, 2, 3]), [2, 3])
        self.assertEqual(stand_behind(rule, [1, 2, 3, 5]), [])
        self.assertEqual(stand_behind(rule, [1, 2, 1]), [1])
        self.assertEqual(stand_behind(rule, [1, 2, 2]), [2])
        self.assertIsNone(stand_behind(rule, [1, 2, 3, 4]))
        self.assertIsNone(stand_behind(rule, [1, 2, 3, 7]))
        self.assertIsNone(stand_behind(rule, [2, 3, 7, 0, 0, 0]))
        self.assertIsNone(stand_behind(rule, [0, 0, 1, 2, 3, 4, 5]))

    def test_0_first(self):
        rule = rule_by(10, "001")
        self.assertEqual(stand_behind(rule, [0]), [0])
        self.assertEqual(stand_behind(rule, [0, 0]), [0, 0])
        self.assertEqual(stand_behind(rule, [0, 0, 0, 0]), [0, 0])
        self.assertEqual(stand_behind(rule, [0, 1]), [])
        self.assertIsNone(stand_behind(rule, [0, 0, 1]))
        self.assertIsNone(stand_behind(rule, [0, 0, 0, 1, 5]))

    def test_no_stretch(self):
        for base in BASES:
            for figures in [[], [0], [1], [0, 0, 1], [base - 1] * 90]:
                self.assertEqual(stand_behind((base, []), figures), [])

    def test_every_short_text(self):
        for rule in narrow_rules():
            for text in texts_up_to(rule[0], 6 if rule[0] == 2 else 4):
                self.assertEqual(stand_behind(rule, figures_in(text)), figures_to_stand(rule, text), (rule, text))

    def test_long_figures(self):
        source = random.Random(11)
        for rule in some_rules(200):
            used = [figure for stretch in rule[1] for figure in stretch] + [source.randrange(rule[0])]
            for size in [5, 9, 30, 90]:
                figures = [source.choice(used) for _ in range(size)]
                self.assertEqual(stand_behind(rule, figures), figures_to_stand(rule, text_of(figures)))

    def test_long_figures_without_a_bad_stretch(self):
        rule = rule_by(10, "1111", "12", "3333")
        self.assertEqual(stand_behind(rule, [1, 1, 1, 0] * 22 + [1, 1]), [1, 1])
        self.assertEqual(stand_behind(rule, [0] * 87 + [3, 3, 3]), [3, 3, 3])
        self.assertIsNone(stand_behind(rule, [1, 2] + [0] * 88))
        self.assertIsNone(stand_behind(rule, [0] * 88 + [1, 2]))

    def test_no_rule_ahead_of_no_figures(self):
        for thing in no_rules():
            for figures in [[], [0, 1], None, [True], "1", [99]]:
                with self.subTest(thing=type(thing), figures=figures):
                    self.assertRaises(NoRule, stand_behind, thing, figures)

    def test_no_figures(self):
        for rule in [(10, []), (10, [[1, 3], [7]]), (2, [[0], [1]]), (16, [[0, 0]])]:
            base = rule[0]
            more = [[base], [0, base], [-1], [0, -1], [1, True], [False], ["1"], [[1]], (), (0,), "", "1", {}, 0, None]
            for thing in more + [thing for thing in anything() if not are_figures(base, thing)]:
                with self.subTest(rule=rule, thing=type(thing)):
                    self.assertRaises(NoFigures, stand_behind, rule, thing)

    def test_no_figures_behind_a_bad_stretch(self):
        self.assertRaises(NoFigures, stand_behind, (10, [[7]]), [7, 10])
        self.assertRaises(NoFigures, stand_behind, (10, [[7]]), [7, True])


class AllStands(unittest.TestCase):
    def test_plain_ones(self):
        self.assertEqual(all_stands((10, [])), [[]])
        self.assertEqual(all_stands((10, [[7]])), [[]])
        self.assertEqual(all_stands((2, [[0], [1]])), [[]])
        self.assertEqual(all_stands((10, [[1, 3], [7]])), [[], [1]])
        self.assertEqual(all_stands(rule_by(10, "9123", "12", "5")), [[], [1], [9], [9, 1]])

    def test_shorter_ones_first_then_as_lists_are(self):
        self.assertEqual(all_stands(rule_by(10, "1234", "9", "2000", "800")),
                         [[], [1], [2], [8], [1, 2], [2, 0], [8, 0], [1, 2, 3], [2, 0, 0]])
        self.assertEqual(all_stands(rule_by(16, "2a1", "af", "f0")), [[], [2], [10], [15], [2, 10]])

    def test_one_stretch_within_another(self):
        self.assertEqual(all_stands(rule_by(10, "1234", "23")), [[], [1], [2], [1, 2]])
        self.assertEqual(all_stands(rule_by(10, "1", "1234")), [[]])
        self.assertEqual(all_stands(rule_by(10, "12", "1234")), [[], [1]])
        self.assertEqual(all_stands(rule_by(10, "4", "1234")), [[], [1], [1, 2], [1, 2, 3]])
        self.assertEqual(all_stands(rule_by(10, "3", "1234", "2345", "5")), [[], [1], [2], [1, 2]])

    def test_a_beginning_of_two_is_told_once(self):
        self.assertEqual(all_stands(rule_by(10, "123", "124", "13")), [[], [1], [1, 2]])

    def test_by_hand(self):
        for rule in list(narrow_rules()) + some_rules(200, seed=2):
            self.assertEqual(all_stands(rule), stands_by_hand(rule), rule)

    def test_no_rule(self):
        for thing in no_rules():
            with self.subTest(thing=type(thing)):
                self.assertRaises(NoRule, all_stands, thing)


class StepFrom(unittest.TestCase):
    def test_plain_ones(self):
        rule = rule_by(10, "1234", "237")
        self.assertEqual(step_from(rule, [], 1), [1])
        self.assertEqual(step_from(rule, [], 0), [])
        self.assertEqual(step_from(rule, [1], 2), [1, 2])
        self.assertEqual(step_from(rule, [1, 2], 3), [1, 2, 3])
        self.assertEqual(step_from(rule, [1, 2], 1), [1])
        self.assertEqual(step_from(rule, [1, 2], 2), [2])
        self.assertEqual(step_from(rule, [1, 2, 3], 0), [])
        self.assertIsNone(step_from(rule, [1, 2, 3], 4))
        self.assertIsNone(step_from(rule, [1, 2, 3], 7))
        self.assertIsNone(step_from(rule, [2, 3], 7))
        self.assertEqual(step_from((10, []), [], 5), [])
        self.assertIsNone(step_from((10, [[7]]), [], 7))

    def test_from_every_stand_by_every_figure(self):
        for rule in list(narrow_rules()) + some_rules(150, seed=3):
            for stand in stands_by_hand(rule):
                for figure in range(rule[0]):
                    self.assertEqual(step_from(rule, stand, figure), figures_to_stand(rule, text_of(stand + [figure])))

    def test_step_by_step_as_at_once(self):
        source = random.Random(13)
        for rule in some_rules(150, seed=4):
            used = [figure for stretch in rule[1] for figure in stretch] + [source.randrange(rule[0])]
            stand = []
            text = ""
            while stand is not None and len(text) < 30:
                figure = source.choice(used)
                text += text_of([figure])
                stand = step_from(rule, stand, figure)
                self.assertEqual(stand, figures_to_stand(rule, text), (rule, text))

    def test_no_rule_first(self):
        for thing in no_rules():
            for stand, figure in [([], 0), (None, 0), ([], None), (None, None), ([True], True), ([9, 9], 99)]:
                with self.subTest(thing=type(thing), stand=stand, figure=figure):
                    self.assertRaises(NoRule, step_from, thing, stand, figure)

    def test_no_stand_ahead_of_no_figures(self):
        for rule in [(10, []), (10, [[1, 3], [7]]), (2, [[0, 1, 0], [1, 1, 1]]), rule_by(10, "1234", "23")]:
            stands = stands_by_hand(rule)
            more = [None, [0, 0, 0], [1, 3], [7], [1, 2, 3], [1, 2, 3, 4], [2, 3], [3], (), (1,), ((),), [[]], [[1]],
                    [True], [1, True], [False], "", "1", {}, 0, 1, [rule[0]], [-1], ["1"], [None]]
            for thing in more + anything():
                if are_figures(rule[0], thing) and thing in stands:
                    continue
                for figure in [0, 1, rule[0], -1, None, True, "1", [1]]:
                    with self.subTest(rule=rule, stand=type(thing), figure=figure):
                        self.assertRaises(NoStand, step_from, rule, thing, figure)

    def test_no_figures(self):
        for rule in [(10, []), (10, [[1, 3], [7]]), (2, [[0, 1, 0], [1, 1, 1]]), (16, [[0], [15, 15]])]:
            base = rule[0]
            for stand in stands_by_hand(rule):
                for thing in [base, base + 1, -1, True, False, [0], [1], (0,), "0", "", None, {}] + anything():
                    if not (is_int(thing) and 0 <= thing < base):
                        with self.subTest(rule=rule, stand=stand, thing=type(thing)):
                            self.assertRaises(NoFigures, step_from, rule, stand, thing)


if __name__ == "__main__":
    unittest.main()
