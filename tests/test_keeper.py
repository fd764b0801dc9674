"""[13] a Keeper: stretches come and go, and what it tells is as anew; [3]."""

import copy
import random
import unittest

from lackstretch.errors import NoNumber, NoRule, NoStretch, TooMany
from lackstretch.figures import is_good, is_rule
from lackstretch.keeper import Keeper
from lackstretch.which import count_below, good_by
from tests.by_hand import KINDS, WIDE, Below, good_numbers, great_numbers, rules
from tests.test_rules import is_stretch
from tests.test_stands import no_rules
from tests.things import BASES, answer, anything, calls_of, is_int, no_numbers, rule_by, some_rules

FOUR = rule_by(10, "13", "2", "55", "7")


def no_stretches(base):
    """What is no stretch of the base, of all kinds."""
    told = anything() + [[], [base], [-1], [0, base], [0] * 5, [0] * 9, [True], [False], [0, True], [[0]], (0,), (1, 0),
                         "1", "01", 1, 0, None, True, {0: 1}, [None], ["0"], [(0,)], [[0], [1]], (base, [[0]])]
    return [thing for thing in told if not is_stretch(base, thing)]


def state(keeper):
    """All that a Keeper tells, of some numbers."""
    return [keeper.rule(), [keeper.below(n) for n in (0, 1, 50, 10 ** 20)],
            [answer(keeper.good, k) for k in (0, 1, 30, 10 ** 10, 10 ** 90)]]


class Refusals(unittest.TestCase):
    def test_no_rule_ahead_of_no_number(self):
        for thing in no_rules():
            for b in [0, 7, 10 ** 25, -1, None, True, "5", [5]]:
                with self.subTest(thing=type(thing), b=b):
                    self.assertRaises(NoRule, Keeper, thing, b)

    def test_no_number(self):
        for rule in [(10, []), (2, [[0], [1]]), FOUR]:
            keeper = Keeper(rule, 100)
            before = state(keeper)
            for thing in no_numbers() + [-1, True, False, "0", [0], None]:
                with self.subTest(rule=rule, thing=type(thing)):
                    self.assertRaises(NoNumber, Keeper, rule, thing)
                    self.assertRaises(NoNumber, keeper.good, thing)
                    self.assertRaises(NoNumber, keeper.below, thing)
            self.assertEqual(state(keeper), before)

    def test_too_many_ahead(self):
        keeper = Keeper(FOUR, 1000)
        before = state(keeper)
        for thing in no_stretches(10) + FOUR[1] + [[4], [0, 0], [9, 9, 9, 9]]:
            with self.subTest(thing=type(thing)):
                self.assertRaises(TooMany, keeper.come, thing)
        self.assertEqual(state(keeper), before)

    def test_too_many_no_more_where_one_went(self):
        keeper = Keeper(FOUR, 1000)
        keeper.go([2])
        self.assertRaises(NoStretch, keeper.come, [5, 5])
        self.assertRaises(NoStretch, keeper.come, [10])
        keeper.come([4])
        self.assertRaises(TooMany, keeper.come, [2])

    def test_no_stretch_comes(self):
        for rule in [(10, []), (2, [[1]]), rule_by(10, "13", "7"), rule_by(16, "f", "ff", "fff")]:
            keeper = Keeper(rule, 1000)
            before = state(keeper)
            for thing in no_stretches(rule[0]) + copy.deepcopy(rule[1]):
                with self.subTest(rule=rule, thing=type(thing)):
                    self.assertRaises(NoStretch, keeper.come, thing)
            self.assertEqual(state(keeper), before)

    def test_no_stretch_goes(self):
        for rule in [(10, []), (2, [[1]]), rule_by(10, "13", "7"), FOUR, rule_by(16, "f", "ff", "fff", "ffff")]:
            keeper = Keeper(rule, 1000)
            before = state(keeper)
            strange = [thing for thing in anything() if not (type(thing) is list and str(thing) in map(str, rule[1]))]
            for thing in strange + no_stretches(rule[0]) + [[0, 1, 0], [1, 1, 1], [0, 0, 0, 0]]:
                with self.subTest(rule=rule, thing=type(thing)):
                    self.assertRaises(NoStretch, keeper.go, thing)
            self.assertEqual(state(keeper), before)

    def test_a_list_with_a_truth_in_it_is_not_there(self):
        keeper = Keeper(rule_by(10, "1", "0", "101"), 1000)
        before = state(keeper)
        for thing in [[True], [False], [True, 0, 1], [1, False, 1], [1, 0, True], [True, False, True]]:
            self.assertRaises(NoStretch, keeper.go, thing)
            self.assertRaises(NoStretch, keeper.come, thing)
        self.assertEqual(state(keeper), before)
        self.assertTrue(all(is_int(figure) for stretch in keeper.rule()[1] for figure in stretch))

    def test_other_shapes_of_what_is_there(self):
        keeper = Keeper(rule_by(10, "13", "7"), 1000)
        for thing in [(1, 3), (7,), 7, "7", "13", [[7]], [[1, 3]], {0: 7}, [1, 3, 7], [1], [3], []]:
            self.assertRaises(NoStretch, keeper.go, thing)
        self.assertEqual(keeper.rule(), rule_by(10, "13", "7"))


class Plain(unittest.TestCase):
    def test_coming_and_going(self):
        keeper = Keeper((10, []), 100)
        self.assertEqual(keeper.come([7]), (100, 81))
        self.assertEqual(keeper.come([1, 3]), (81, 80))
        self.assertEqual(keeper.rule(), (10, [[1, 3], [7]]))
        self.assertEqual(keeper.below(14), 12)
        self.assertEqual(keeper.good(12), 14)
        self.assertEqual(keeper.go([7]), (80, 99))
        self.assertEqual(keeper.rule(), (10, [[1, 3]]))
        self.assertEqual(keeper.go([1, 3]), (99, 100))
        self.assertEqual(keeper.rule(), (10, []))

    def test_what_tells_tells_a_tuple(self):
        keeper = Keeper((10, []), 100)
        for told in [keeper.come([7]), keeper.go([7])]:
            self.assertIs(type(told), tuple)
            self.assertTrue(len(told) == 2 and is_int(told[0]) and is_int(told[1]))

    def test_stretches_stay_rising_whatever_came_first(self):
        stretches = [[7], [1, 3], [1], [0, 9, 9]]
        for turn in range(4):
            keeper = Keeper((10, []), 50)
            for stretch in stretches[turn:] + stretches[:turn]:
                keeper.come(stretch)
            self.assertEqual(keeper.rule(), (10, sorted(stretches)))

    def test_a_needless_stretch_stays(self):
        keeper = Keeper(rule_by(10, "7"), 1000)
        self.assertEqual(keeper.come([7, 7]), (729, 729))
        self.assertEqual(keeper.rule(), rule_by(10, "7", "77"))
        self.assertEqual(keeper.go([7]), (729, 981))
        self.assertEqual(keeper.rule(), rule_by(10, "77"))

    def test_b_0_and_1(self):
        keeper = Keeper((10, []), 0)
        self.assertEqual(keeper.come([0]), (0, 0))
        keeper = Keeper((10, []), 1)
        self.assertEqual(keeper.come([0]), (1, 0))
        self.assertEqual(keeper.go([0]), (0, 1))

    def test_great_b(self):
        keeper = Keeper((10, []), 10 ** 25)
        self.assertEqual(keeper.come([7]), (10 ** 25, 9 ** 25))
        self.assertEqual(keeper.come([8]), (9 ** 25, 8 ** 25))
        keeper = Keeper((2, []), 2 ** 900)
        self.assertEqual(keeper.come([1, 0]), (2 ** 900, 901))

    def test_good(self):
        keeper = Keeper((2, [[0], [1]]), 9)
        self.assertIsNone(keeper.good(0))
        self.assertEqual(keeper.go([1]), (0, 3))
        self.assertEqual(keeper.good(0), 1)
        self.assertEqual(keeper.good(59), 2 ** 60 - 1)
        self.assertRaises(TooMany, keeper.good, 60)
        self.assertEqual(keeper.go([0]), (3, 9))
        self.assertEqual(keeper.good(60), 60)
        self.assertEqual(keeper.good(2 ** 60 - 1), 2 ** 60 - 1)
        self.assertRaises(TooMany, keeper.good, 2 ** 60)

    def test_every_base(self):
        for base in BASES:
            keeper = Keeper((base, []), base * base)
            self.assertEqual(keeper.come([base - 1]), (base * base, (base - 1) ** 2))
            self.assertRaises(NoStretch, keeper.come, [base])
            self.assertEqual(keeper.rule(), (base, [[base - 1]]))


class AsAnew(unittest.TestCase):
    def hold(self, keeper, rule, b):
        self.assertEqual(keeper.rule(), rule)
        self.assertIs(is_rule(keeper.rule()), True)
        self.assertEqual(state(keeper), state(Keeper(rule, b)))
        for n in [0, b, 10, 999]:
            self.assertEqual(keeper.below(n), count_below(rule, n))
            self.assertEqual(answer(keeper.good, n), answer(good_by, rule, n))

    def run_of(self, base, seed, turns=60):
        """A long run of comings and goings; refused ones come between, and are no turns."""
        source = random.Random(seed)
        b = source.choice([0, 1, 30, 500, 10 ** 20, source.randrange(10 ** 26)])
        bad = sorted(some_rules(1, bases=[base], seed=seed)[0][1])
        keeper = Keeper((base, bad), b)
        bad = [list(stretch) for stretch in bad]
        while turns > 0:
            stretch = [source.randrange(min(base, 3)) for _ in range(source.choice([0, 1, 1, 2, 2, 3, 4, 5]))]
            if bad and source.random() < 0.3:
                stretch = list(source.choice(bad))
            comes = source.random() < 0.55
            fits = 1 <= len(stretch) <= 4
            told = answer(keeper.come if comes else keeper.go, list(stretch))
            if comes and len(bad) == 4:
                self.assertIs(told, TooMany)
            elif not fits or (stretch in bad) == comes:
                self.assertIs(told, NoStretch)
            else:
                before = (base, bad)
                bad = sorted(bad + [stretch]) if comes else [each for each in bad if each != stretch]
                self.assertEqual(told, (tuple, (Below(before, b).many, Below((base, bad), b).many)))
                turns -= 1
            if turns % 6 == 0:
                self.hold(keeper, (base, bad), b)
            self.assertEqual(keeper.rule(), (base, bad))
        self.hold(keeper, (base, bad), b)

    def test_long_runs(self):
        for seed, base in enumerate([2, 2, 2, 3, 3, 4, 5, 8, 10, 10, 12, 16]):
            self.run_of(base, seed)

    def test_by_going_through(self):
        for rule in KINDS[::3] + some_rules(20, seed=15):
            keeper = Keeper((rule[0], []), 600)
            for stretch in rule[1]:
                keeper.come(stretch)
            good = good_numbers(rule, 600)
            self.assertEqual(keeper.rule(), rule)
            self.assertEqual(keeper.below(600), len(good))
            self.assertEqual([keeper.good(k) for k in range(len(good))], good)

    def test_great_numbers(self):
        for rule in rules(12, seed=16)[::3] + [WIDE]:
            keeper = Keeper(rule, 0)
            for n in great_numbers(rule[0], 2):
                self.assertEqual(keeper.below(n), count_below(rule, n))
                self.assertEqual(answer(keeper.good, n), answer(good_by, rule, n))

    def test_back_and_forth_in_any_order(self):
        source = random.Random(17)
        for rule in some_rules(20, seed=18):
            keeper = Keeper(rule, 300)
            before = state(keeper)
            out = list(rule[1])
            source.shuffle(out)
            for stretch in out:
                keeper.go(stretch)
            self.assertEqual(keeper.rule(), (rule[0], []))
            self.assertEqual(keeper.below(300), 300)
            source.shuffle(out)
            for stretch in out:
                keeper.come(stretch)
            self.assertEqual(state(keeper), before)

    def test_with_a_stretch_more_there_are_no_more(self):
        for rule in some_rules(40, seed=19):
            keeper = Keeper((rule[0], []), 10 ** 12)
            for stretch in rule[1]:
                told = keeper.come(stretch)
                self.assertGreaterEqual(told[0], told[1])

    def test_what_one_tells_of_b_is_what_is_below_b(self):
        for rule in some_rules(20, seed=20):
            keeper = Keeper(rule, 777)
            for stretch in rule[1]:
                many = keeper.below(777)
                told = keeper.go(stretch)
                self.assertEqual(told, (many, keeper.below(777)))


class OwnLists(unittest.TestCase):
    def test_nothing_handed_in_is_kept(self):
        rule = rule_by(10, "13", "7")
        keeper = Keeper(rule, 100)
        before = state(keeper)
        rule[1][0].append(0)
        rule[1].append([8])
        self.assertEqual(state(keeper), before)
        stretch = [5]
        keeper.come(stretch)
        before = state(keeper)
        stretch.append(6)
        stretch[0] = 4
        self.assertEqual(state(keeper), before)
        self.assertEqual(keeper.rule(), rule_by(10, "13", "5", "7"))
        self.assertEqual(keeper.go([5]), (64 - 1, 80))

    def test_nothing_handed_in_is_changed(self):
        rule = rule_by(10, "13", "7")
        keeper = Keeper(rule, 100)
        keeper.go([1, 3])
        keeper.come([1])
        self.assertEqual(rule, rule_by(10, "13", "7"))
        stretch = [2, 2]
        keeper.come(stretch)
        keeper.go(stretch)
        self.assertEqual(stretch, [2, 2])

    def test_a_told_rule_is_the_askers_own(self):
        keeper = Keeper(FOUR, 100)
        before = state(keeper)
        told = keeper.rule()
        told[1][0].append(9)
        told[1].pop()
        told[1].append("x")
        self.assertEqual(state(keeper), before)
        lists = [each for one in [keeper.rule(), keeper.rule(), FOUR] for each in [one[1]] + one[1]]
        self.assertEqual(len({id(each) for each in lists}), len(lists))

    def test_a_stretch_that_was_told_may_come_and_go(self):
        keeper = Keeper(FOUR, 100)
        for stretch in keeper.rule()[1]:
            keeper.go(stretch)
        self.assertEqual(keeper.rule(), (10, []))

    def test_two_keepers_share_nothing(self):
        rule = rule_by(10, "13", "7")
        one, other = Keeper(rule, 100), Keeper(rule, 100)
        before = state(other)
        one.come([4])
        one.go([7])
        self.assertEqual(state(other), before)
        self.assertEqual(one.rule(), rule_by(10, "13", "4"))

    def test_the_same_again_is_answered_the_same(self):
        for rule in KINDS[::4]:
            keeper = Keeper(rule, 500)
            first = state(keeper)
            # A great number asked between leaves more reckoned, but answers nothing otherwise.
            keeper.below(10 ** 300)
            self.assertEqual(state(keeper), first)
            self.assertTrue(all(is_good(rule, told[1]) for told in first[2] if told not in (TooMany,
                                                                                            (type(None), None))))


class Work(unittest.TestCase):
    def test_good_numbers_are_not_gone_through(self):
        for rule in [(2, []), rule_by(2, "111"), rule_by(10, "13", "7"), WIDE]:
            keeper = Keeper(rule, rule[0] ** 40)
            self.assertLess(calls_of(keeper.below, rule[0] ** 20 - 1), 60000)
            self.assertLess(calls_of(keeper.good, 10 ** 15), 60000)
            if rule[1]:
                self.assertLess(calls_of(keeper.go, rule[1][0]), 60000)

    def test_nothing_of_a_stand_is_reckoned_anew_for_each_number(self):
        for rule in [rule_by(2, "111"), rule_by(10, "13", "7"), WIDE]:
            keeper = Keeper(rule, 0)
            first = calls_of(keeper.below, rule[0] ** 40 - 1)
            again = calls_of(keeper.below, rule[0] ** 40 - 2)
            self.assertLess(2 * again, first)
            self.assertLessEqual(calls_of(keeper.below, rule[0] ** 30), first)


if __name__ == "__main__":
    unittest.main()
