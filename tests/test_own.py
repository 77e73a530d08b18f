"""What is handed in stays as it was; what is told is new, and the asker's own."""

import copy
import unittest

from windround.carry import carried_on, carried_out, joined_plan, joined_town, left_out, shared_out
from windround.costs import cost_of, least_cost, prices_hold
from windround.days import begun, choices, gone, is_stuck, wound
from windround.errors import NoDay, NoHands
from windround.even import chain_plan, clash, days_of, even_plan, is_even, row_on, rounded
from windround.mends import least_mend, room_beside
from windround.order import no_tighter, no_worse
from windround.papers import paper_of, shuts_out
from windround.plans import can_keep, keeps, plan_of
from windround.shares import share, shortage, supply
from windround.texts import read_plan, read_town, show_plan, show_town

TOWN = ([2, 4, 5], [1, 1, 2])
STANDING = (2, (1, 3, 4))
ROWS = [[0, 2], [1], [0]]
PLAN = ([[0]], [[1], [0, 2], [0]])
OTHER_PLAN = ([[], [0], []], [[1], [], [0], [0, 1]])
PAPER = [(0, (2, 2, 2), 1), (0, (2, 1, 1), 0), (0, (1, 2, 1), 0), (0, (1, 1, 2), 0)]
EVEN = [(0, 1, 4), (0, 0, 2), (1, 2, 3), (0, 3, 4)]
PRICES = [((0, (1,)), 14), ((0, (2,)), 7), ((0, (3,)), 0)]

CALLS = [
    (begun, (TOWN,)),
    (choices, (TOWN, STANDING)),
    (choices, (([3, 3, 3], [3]), (0, (3, 3, 3)))),
    (is_stuck, (TOWN, STANDING)),
    (wound, (TOWN, STANDING, [0, 2])),
    (gone, (TOWN, STANDING, ROWS)),
    (no_worse, (STANDING, (2, (1, 2, 4)))),
    (no_tighter, (TOWN, ([2, 4, 4], [1, 1, 1]))),
    (keeps, (TOWN, PLAN)),
    (plan_of, (TOWN,)),
    (plan_of, (([12], [1, 0, 0]),)),
    (plan_of, (([2, 2, 2], [3]),)),
    (plan_of, (([3, 3, 3, 3, 4, 6], [2]),)),
    (plan_of, (([2, 3, 12], [1]),)),
    (can_keep, (TOWN, STANDING)),
    (paper_of, (TOWN,)),
    (paper_of, (([2, 3, 12], [1]),)),
    (paper_of, (([1], [0]),)),
    (shuts_out, (([2, 2, 2], [1]), PAPER)),
    (shuts_out, (([2, 2, 2], [1]), PAPER[::-1] + [(0, (2, 2, 2), -1)])),
    (share, ([4, 12, 6, 6],)),
    (supply, ([4, 0, 2],)),
    (shortage, (([2, 2, 3], [1, 1]),)),
    (shortage, (TOWN,)),
    (clash, (4, 5, 6, 7)),
    (is_even, (([4, 2, 3, 5], [2]), EVEN)),
    (is_even, (([4, 2, 2, 5], [2]), EVEN)),
    (chain_plan, ([8, 2, 4, 8], 1)),
    (chain_plan, ([1, 1, 1], 3)),
    (rounded, ([7, 3, 12, 6], 3)),
    (rounded, ([5, 5], 5)),
    (even_plan, (([6, 7, 13, 3], [1]),)),
    (even_plan, (([1], [1]),)),
    (row_on, (EVEN, 5)),
    (days_of, (EVEN,)),
    (days_of, ([(0, 0, 1)],)),
    (shared_out, (TOWN, 1, 3)),
    (shared_out, (TOWN, 0, 1)),
    (carried_out, (TOWN, PLAN, 0, 2)),
    (carried_out, (TOWN, PLAN, 2, 1)),
    (carried_out, (([5, 2], [1]), ([], [[1]]), 0, 3)),
    (left_out, (TOWN, 1)),
    (carried_on, (TOWN, PLAN, 1)),
    (carried_on, (TOWN, PLAN, 2)),
    (joined_town, (TOWN, ([3, 3], [1, 0]))),
    (joined_town, (([3], [1]), ([3], [1]))),
    (joined_plan, (TOWN, PLAN, OTHER_PLAN)),
    (joined_plan, (TOWN, PLAN, ([], [[]]))),
    (cost_of, (PLAN, [3, 0, 10 ** 20 - 1])),
    (least_cost, (TOWN, [3, 1, 10 ** 20 - 1])),
    (least_cost, (([3, 5, 7], [1, 0, 1, 1, 1]), [1, 0, 4])),
    (least_cost, (([12], [1, 0, 0]), [0])),
    (least_cost, (([6, 6, 6], [3]), [1, 1, 1])),
    (least_cost, (([2, 3, 12], [1]), [1, 1, 1])),
    (prices_hold, (([3], [1]), [7], (7, 3), PRICES)),
    (prices_hold, (([3], [1]), [7], (5, 2), PRICES[::-1])),
    (least_mend, (TOWN,)),
    (least_mend, (([2, 2, 2], [1]),)),
    (least_mend, (([1], [0, 0, 1]),)),
    (least_mend, (([4, 4, 4, 5, 5], [1]),)),
    (room_beside, (TOWN, 12)),
    (room_beside, (([2, 2], [1]), 12)),
    (show_town, (TOWN,)),
    (show_plan, (PLAN,)),
    (show_plan, (([], [[]]),)),
    (read_town, ("2 4 5 | 1 1 2",)),
    (read_town, ("3 | 3",)),
    (read_plan, ("0 - 0 - | 1 1 0,2 1",)),
    (read_plan, (". | - -",)),
]


def lists_in(value):
    """Every list within a value, once for each place where it stands."""
    if isinstance(value, (list, tuple)):
        inner = [found for part in value for found in lists_in(part)]
        return inner + [value] if isinstance(value, list) else inner
    return []


def numbers_in(value):
    """Everything within a value that is no list or tuple."""
    if isinstance(value, (list, tuple)):
        return [found for part in value for found in numbers_in(part)]
    return [value]


TRUTHS = (is_stuck, no_worse, no_tighter, keeps, can_keep, shuts_out, is_even, prices_hold)
LINES = (show_town, show_plan)


class Own(unittest.TestCase):
    def test_what_is_handed_in_stays_as_it_was(self):
        for call, given in CALLS:
            before = copy.deepcopy(given)
            call(*given)
            self.assertEqual(given, before, call)

    def test_what_is_handed_in_stays_as_it_was_when_refused(self):
        rows = [[0, 2], [1], [], [0]]
        given = copy.deepcopy((TOWN, STANDING, rows))
        with self.assertRaises(NoDay):
            gone(*given)
        self.assertEqual(given, (TOWN, STANDING, rows))
        with self.assertRaises(NoDay):
            wound(given[0], given[1], [2, 0])
        self.assertEqual(given, (TOWN, STANDING, rows))
        town = ([3, 4], [0, 0])
        with self.assertRaises(NoHands):
            least_mend(town)
        self.assertEqual(town, ([3, 4], [0, 0]))

    def test_one_list_handed_in_at_two_places(self):
        row = [0]
        town = ([2, 2], [1])
        for told in (
            joined_plan(town, ([], [row, row]), ([], [row])),
            carried_out(town, ([row, row], [row, row]), 1, 2),
            carried_on(town, ([row, row], [row, row]), 1),
            joined_town(town, town),
            least_cost((town[0], town[0]), town[0]),
            least_mend((town[0], town[0])),
            least_mend(([1, 2, 2], town[1])),
        ):
            found = lists_in(told)
            self.assertEqual(len({id(one) for one in found}), len(found))
            self.assertFalse({id(one) for one in found} & {id(row), id(town[0]), id(town[1])})
        self.assertEqual((row, town), ([0], ([2, 2], [1])))

    def test_the_same_is_told_each_time(self):
        for call, given in CALLS:
            first = call(*copy.deepcopy(given))
            for turn in range(3):
                self.assertEqual(call(*given), first, call)

    def test_no_list_stands_at_two_places(self):
        for call, given in CALLS:
            found = lists_in(call(*given))
            self.assertEqual(len({id(one) for one in found}), len(found), call)

    def test_no_list_is_told_twice_or_was_handed_in(self):
        for call, given in CALLS:
            told = [call(*given), call(*given), given]
            places = [{id(one) for one in lists_in(value)} for value in told]
            self.assertFalse(places[0] & places[1], call)
            self.assertFalse(places[0] & places[2], call)

    def test_changing_what_was_told_changes_nothing_told_afterwards(self):
        for call, given in CALLS:
            told = call(*given)
            before = copy.deepcopy(told)
            for one in lists_in(told):
                one.append(99)
                one.reverse()
            self.assertEqual(call(*given), before, call)

    def test_changing_what_was_handed_in_changes_nothing_that_was_told(self):
        for call, given in CALLS:
            mine = copy.deepcopy(given)
            told = call(*mine)
            before = copy.deepcopy(told)
            for one in lists_in(mine):
                one.clear()
            self.assertEqual(told, before, call)

    def test_truths_are_truths_and_numbers_are_none(self):
        for call, given in CALLS:
            told = call(*given)
            if call in TRUTHS:
                self.assertIs(type(told), bool, call)
            elif call in LINES:
                self.assertIs(type(told), str, call)
            elif told is not None:
                self.assertEqual({type(number) for number in numbers_in(told)} - {int}, set(), call)
        for row in choices(TOWN, STANDING) + plan_of(TOWN)[0] + plan_of(TOWN)[1]:
            self.assertIs(type(row), list)
            self.assertEqual({type(clock) for clock in row} - {int}, set())
        for standing in (begun(TOWN), wound(TOWN, STANDING, [0, 2]), gone(TOWN, STANDING, ROWS)):
            self.assertEqual((type(standing), type(standing[0]), type(standing[1])), (tuple, int, tuple))
            self.assertEqual({type(left) for left in standing[1]}, {int})


if __name__ == "__main__":
    unittest.main()
