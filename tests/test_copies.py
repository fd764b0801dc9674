"""[2] what is handed in stays as it was; what is told is new, and the asker's own."""

import copy
import unittest

from lackstretch.errors import LackError
from lackstretch.figures import figures_of, is_good, is_rule, number_by
from lackstretch.stands import all_stands, stand_behind, step_from
from tests.things import rule_by, some_rules


def spoil(told):
    """All that an asker might do to a told list."""
    for each in told:
        if isinstance(each, list):
            each.append(99)
    told.reverse()
    told.append([99])


def calls():
    """A call and what is handed in, each of all that tells a list."""
    rule = rule_by(10, "1234", "237", "9")
    return [
        (figures_of, (10, 0)), (figures_of, (10, 1234)), (figures_of, (2, 5)),
        (stand_behind, (rule, [])), (stand_behind, (rule, [1, 2, 3])), (stand_behind, (rule, [0, 2, 3])),
        (stand_behind, (rule, [5])), (stand_behind, ((10, []), [])), (stand_behind, ((10, []), [1])),
        (all_stands, (rule,)), (all_stands, ((10, []),)), (all_stands, ((10, [[7]]),)),
        (step_from, (rule, [], 1)), (step_from, (rule, [], 0)), (step_from, (rule, [1], 2)),
        (step_from, (rule, [1, 2, 3], 0)), (step_from, ((10, []), [], 0)),
    ]


def lists_within(thing):
    told = [thing] if isinstance(thing, list) else []
    if isinstance(thing, (list, tuple)):
        for each in thing:
            told += lists_within(each)
    return told


class Copies(unittest.TestCase):
    def test_what_is_handed_in_stays(self):
        whole = calls() + [
            (number_by, (10, [1, 2, 3])), (number_by, (10, [0, 1])), (is_rule, ((10, [[7], [1]]),)),
            (is_rule, (rule_by(10, "1", "2"),)), (is_good, (rule_by(10, "12", "3"), 312)),
            (stand_behind, (rule_by(10, "12"), [1, 2])), (stand_behind, (rule_by(10, "12"), [1, True])),
            (all_stands, ((10, [[7], [1]]),)), (step_from, (rule_by(10, "12"), [1], 2)),
            (step_from, (rule_by(10, "12"), [3], 2)), (step_from, (rule_by(10, "12"), [1], 10)),
        ]
        for call, handed in whole:
            before = copy.deepcopy(handed)
            try:
                call(*handed)
            except LackError:
                pass
            self.assertEqual(repr(handed), repr(before), call)

    def test_a_spoiled_answer_changes_nothing(self):
        for call, handed in calls():
            with self.subTest(call=call, handed=handed):
                before = copy.deepcopy(handed)
                first = call(*handed)
                kept = copy.deepcopy(first)
                spoil(first)
                self.assertEqual(handed, before)
                self.assertEqual(call(*handed), kept)
                self.assertEqual(call(*copy.deepcopy(before)), kept)

    def test_no_two_told_are_one(self):
        for call, handed in calls():
            with self.subTest(call=call, handed=handed):
                lists = lists_within(handed) + lists_within(call(*handed)) + lists_within(call(*handed))
                self.assertEqual(len({id(each) for each in lists}), len(lists))

    def test_what_is_handed_in_is_not_kept(self):
        rule = (10, [[1, 2]])
        self.assertEqual(all_stands(rule), [[], [1]])
        rule[1][0][0] = 5
        self.assertEqual(all_stands(rule), [[], [5]])
        self.assertEqual(stand_behind(rule, [5]), [5])
        self.assertEqual(stand_behind(rule, [1]), [])
        self.assertIs(is_good(rule, 12), True)
        self.assertIs(is_good(rule, 52), False)
        rule[1].append([5, 2])
        self.assertIs(is_rule(rule), False)

    def test_the_same_again_is_answered_the_same(self):
        for rule in some_rules(60):
            first = [all_stands(rule), [is_good(rule, n) for n in range(60)]]
            self.assertEqual([all_stands(rule), [is_good(rule, n) for n in range(60)]], first)
            self.assertEqual(all_stands(copy.deepcopy(rule)), first[0])


if __name__ == "__main__":
    unittest.main()
