"""[2] what is handed in stays as it was; what is told is new, and the asker's own."""

import copy
import unittest

from lackstretch.desk import Desk
from lackstretch.errors import LackError, NoRules
from lackstretch.figures import figures_of, is_good, is_rule, number_by
from lackstretch.keeper import Keeper
from lackstretch.lengths import count_long, greatest_good, greatest_long, is_endless, least_long, sum_long
from lackstretch.stands import all_stands, stand_behind, step_from
from lackstretch.sums import figures_below, often_below, sum_below
from lackstretch.texts import read_number, read_rule, show_number, show_rule
from lackstretch.together import all_keeping, count_keeping, keeps_all, next_keeping, one_rule
from lackstretch.which import count_below, good_by, last_good, next_good, place_of
from tests.things import answer, rule_by, some_rules


def spoil(told):
    """All that an asker might do to a told list, or to the list of a told rule."""
    if isinstance(told, tuple):
        told = told[1]
    for each in told:
        if isinstance(each, list):
            each.append(99)
    told.reverse()
    told.append([99])


def desk_names(rows):
    desk = Desk()
    for row in rows:
        desk.say(row)
    return desk.names()


def keepers_rule(rule, b, stretches):
    keeper = Keeper(rule, b)
    for stretch in stretches:
        keeper.come(stretch)
    return keeper.rule()


def calls():
    """A call and what is handed in, each of all that tells a list or a rule."""
    rule = rule_by(10, "1234", "237", "9")
    return [
        (figures_of, (10, 0)), (figures_of, (10, 1234)), (figures_of, (2, 5)),
        (stand_behind, (rule, [])), (stand_behind, (rule, [1, 2, 3])), (stand_behind, (rule, [0, 2, 3])),
        (stand_behind, (rule, [5])), (stand_behind, ((10, []), [])), (stand_behind, ((10, []), [1])),
        (all_stands, (rule,)), (all_stands, ((10, []),)), (all_stands, ((10, [[7]]),)),
        (step_from, (rule, [], 1)), (step_from, (rule, [], 0)), (step_from, (rule, [1], 2)),
        (step_from, (rule, [1, 2, 3], 0)), (step_from, ((10, []), [], 0)),
        (all_keeping, ([rule, (2, [[1, 1]])], 50)), (all_keeping, ([rule], 0)),
        (one_rule, ([rule],)), (one_rule, ([rule, (10, [[8], [9]])],)), (one_rule, ([(10, []), (10, [])],)),
        (keepers_rule, (rule, 50, [[5, 5]])), (keepers_rule, (rule, 0, [])), (keepers_rule, ((10, []), 0, [])),
        (read_rule, ("10 1234 237 9",)), (read_rule, ("10",)),
        (desk_names, (["rule b 10", "rule a 10 13"],)), (desk_names, ([],)),
    ]


def by_togethers():
    """A call and what is handed in, of rules together, of Keepers and of texts; some are refused."""
    told = []
    for rules in [[rule_by(10, "7", "9"), rule_by(2, "11")], [rule_by(10, "12", "7"), rule_by(10, "1")], [(2, [])], [],
                  [rule_by(10, "1", "2", "3"), rule_by(10, "5", "6", "7")], [(10, [[7], [1]])], (rule_by(10, "7"),)]:
        for n in [0, 7, 600, 2001, -1, True, [1]]:
            told += [(call, (rules, n)) for call in [keeps_all, count_keeping, all_keeping, next_keeping]]
        told += [(one_rule, (rules,))]
    for rule in [rule_by(10, "13", "7"), (10, []), rule_by(10, "1", "2", "3", "4"), (10, [[7], [1]]), [10, []]]:
        told += [(keepers_rule, (rule, b, [stretch])) for b in [0, 50, -1] for stretch in [[5], [7], [], [True], "5"]]
        told += [(show_rule, (rule,)), (show_number, (10, rule)), (read_rule, (rule,)), (read_number, (10, rule))]
    return told


def by_rules():
    """A call and what is handed in, each of all that tells a number or a truth of a rule; some are refused."""
    told = []
    for rule in [rule_by(10, "1234", "237", "9"), rule_by(10, "00", "13", "7"), (2, [[0], [1]]), (2, []),
                 rule_by(2, "0", "111"), rule_by(2, "10"), (10, [[7], [1]]), [10, [[1]]]]:
        for n in [0, 1, 7, 60, 1234, 10 ** 25, -1, True, [1]]:
            told += [(call, (rule, n)) for call in [count_below, good_by, place_of, next_good, last_good, sum_below,
                                                    figures_below, count_long, least_long, greatest_long, sum_long]]
            told += [(often_below, (rule, n, 1)), (often_below, (rule, n, [1]))]
        told += [(is_endless, (rule,)), (greatest_good, (rule,))]
    return told


def lists_within(thing):
    told = [thing] if isinstance(thing, list) else []
    if isinstance(thing, (list, tuple)):
        for each in thing:
            told += lists_within(each)
    return told


class Copies(unittest.TestCase):
    def test_what_is_handed_in_stays(self):
        whole = calls() + by_rules() + by_togethers() + [
            (number_by, (10, [1, 2, 3])), (number_by, (10, [0, 1])), (is_rule, ((10, [[7], [1]]),)),
            (is_rule, (rule_by(10, "1", "2"),)), (is_good, (rule_by(10, "12", "3"), 312)),
            (stand_behind, (rule_by(10, "12"), [1, 2])), (stand_behind, (rule_by(10, "12"), [1, True])),
            (all_stands, ((10, [[7], [1]]),)), (step_from, (rule_by(10, "12"), [1], 2)),
            (step_from, (rule_by(10, "12"), [3], 2)), (step_from, (rule_by(10, "12"), [1], 10)),
        ]
        for call, handed in whole:
            before = copy.deepcopy(handed)
            try:
                call(*handed)
            except LackError:
                pass
            self.assertEqual(repr(handed), repr(before), call)

    def test_a_spoiled_answer_changes_nothing(self):
        for call, handed in calls():
            with self.subTest(call=call, handed=handed):
                before = copy.deepcopy(handed)
                first = call(*handed)
                kept = copy.deepcopy(first)
                spoil(first)
                self.assertEqual(handed, before)
                self.assertEqual(call(*handed), kept)
                self.assertEqual(call(*copy.deepcopy(before)), kept)

    def test_no_two_told_are_one(self):
        for call, handed in calls():
            with self.subTest(call=call, handed=handed):
                lists = lists_within(handed) + lists_within(call(*handed)) + lists_within(call(*handed))
                self.assertEqual(len({id(each) for each in lists}), len(lists))

    def test_what_is_handed_in_is_not_kept(self):
        rule = (10, [[1, 2]])
        self.assertEqual(all_stands(rule), [[], [1]])
        rule[1][0][0] = 5
        self.assertEqual(all_stands(rule), [[], [5]])
        self.assertEqual(stand_behind(rule, [5]), [5])
        self.assertEqual(stand_behind(rule, [1]), [])
        self.assertIs(is_good(rule, 12), True)
        self.assertIs(is_good(rule, 52), False)
        rule[1].append([5, 2])
        self.assertIs(is_rule(rule), False)

    def test_the_same_again_is_answered_the_same_by_a_rule(self):
        first = [answer(call, *handed) for call, handed in by_rules()]
        again = [answer(call, *handed) for call, handed in reversed(by_rules())]
        self.assertEqual(list(reversed(again)), first)

    def test_the_same_again_is_answered_the_same_by_rules_together_and_texts(self):
        first = [answer(call, *handed) for call, handed in by_togethers()]
        again = [answer(call, *handed) for call, handed in reversed(by_togethers())]
        self.assertEqual(list(reversed(again)), first)

    def test_rules_that_were_changed_are_others(self):
        rules = [(10, [[1]]), (10, [[2]])]
        self.assertEqual(one_rule(rules), (10, [[1], [2]]))
        rules[0][1][0].append(2)
        self.assertEqual(one_rule(rules), (10, [[2]]))
        self.assertEqual(all_keeping(rules, 4), [0, 1, 3])
        rules.append((2, []))
        self.assertEqual(answer(one_rule, rules), NoRules)
        self.assertEqual(count_keeping(rules, 4), 3)

    def test_a_rule_that_was_changed_is_another_one(self):
        rule = (10, [[1], [2]])
        self.assertEqual(count_below(rule, 10), 8)
        rule[1].append([3])
        rule[1][0].append(0)
        self.assertEqual(count_below(rule, 10), 8)
        self.assertEqual(good_by(rule, 1), 1)
        self.assertEqual(sum_below(rule, 10), 40)
        self.assertEqual(count_long(rule, 1), 8)
        self.assertEqual(count_below(rule, 11), 8)

    def test_the_same_again_is_answered_the_same(self):
        for rule in some_rules(60):
            first = [all_stands(rule), [is_good(rule, n) for n in range(60)]]
            self.assertEqual([all_stands(rule), [is_good(rule, n) for n in range(60)]], first)
            self.assertEqual(all_stands(copy.deepcopy(rule)), first[0])


if __name__ == "__main__":
    unittest.main()
