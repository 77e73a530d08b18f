"""What is handed in stays as it was; what is told is new, and the asker's own."""

import copy
import unittest

from windround.days import begun, choices, gone, is_stuck, wound
from windround.errors import NoDay
from windround.order import no_tighter, no_worse
from windround.plans import can_keep, keeps, plan_of

TOWN = ([2, 4, 5], [1, 1, 2])
STANDING = (2, (1, 3, 4))
ROWS = [[0, 2], [1], [0]]
PLAN = ([[0]], [[1], [0, 2], [0]])

CALLS = [
    (begun, (TOWN,)),
    (choices, (TOWN, STANDING)),
    (choices, (([3, 3, 3], [3]), (0, (3, 3, 3)))),
    (is_stuck, (TOWN, STANDING)),
    (wound, (TOWN, STANDING, [0, 2])),
    (gone, (TOWN, STANDING, ROWS)),
    (no_worse, (STANDING, (2, (1, 2, 4)))),
    (no_tighter, (TOWN, ([2, 4, 4], [1, 1, 1]))),
    (keeps, (TOWN, PLAN)),
    (plan_of, (TOWN,)),
    (plan_of, (([12], [1, 0, 0]),)),
    (plan_of, (([2, 2, 2], [3]),)),
    (plan_of, (([3, 3, 3, 3, 4, 6], [2]),)),
    (plan_of, (([2, 3, 12], [1]),)),
    (can_keep, (TOWN, STANDING)),
]


def lists_in(value):
    """Every list within a value, once for each place where it stands."""
    if isinstance(value, (list, tuple)):
        inner = [found for part in value for found in lists_in(part)]
        return inner + [value] if isinstance(value, list) else inner
    return []


class Own(unittest.TestCase):
    def test_what_is_handed_in_stays_as_it_was(self):
        for call, given in CALLS:
            before = copy.deepcopy(given)
            call(*given)
            self.assertEqual(given, before, call)

    def test_what_is_handed_in_stays_as_it_was_when_refused(self):
        rows = [[0, 2], [1], [], [0]]
        given = copy.deepcopy((TOWN, STANDING, rows))
        with self.assertRaises(NoDay):
            gone(*given)
        self.assertEqual(given, (TOWN, STANDING, rows))
        with self.assertRaises(NoDay):
            wound(given[0], given[1], [2, 0])
        self.assertEqual(given, (TOWN, STANDING, rows))

    def test_the_same_is_told_each_time(self):
        for call, given in CALLS:
            first = call(*copy.deepcopy(given))
            for turn in range(3):
                self.assertEqual(call(*given), first, call)

    def test_no_list_stands_at_two_places(self):
        for call, given in CALLS:
            found = lists_in(call(*given))
            self.assertEqual(len({id(one) for one in found}), len(found), call)

    def test_no_list_is_told_twice_or_was_handed_in(self):
        for call, given in CALLS:
            told = [call(*given), call(*given), given]
            places = [{id(one) for one in lists_in(value)} for value in told]
            self.assertFalse(places[0] & places[1], call)
            self.assertFalse(places[0] & places[2], call)

    def test_changing_what_was_told_changes_nothing_told_afterwards(self):
        for call, given in CALLS:
            told = call(*given)
            before = copy.deepcopy(told)
            for one in lists_in(told):
                one.append(99)
                one.reverse()
            self.assertEqual(call(*given), before, call)

    def test_changing_what_was_handed_in_changes_nothing_that_was_told(self):
        for call, given in CALLS:
            mine = copy.deepcopy(given)
            told = call(*mine)
            before = copy.deepcopy(told)
            for one in lists_in(mine):
                one.clear()
            self.assertEqual(told, before, call)

    def test_truths_are_truths_and_numbers_are_none(self):
        for call, given in CALLS:
            if call in (is_stuck, no_worse, no_tighter, keeps, can_keep):
                self.assertIs(type(call(*given)), bool, call)
        for row in choices(TOWN, STANDING) + plan_of(TOWN)[0] + plan_of(TOWN)[1]:
            self.assertIs(type(row), list)
            self.assertEqual({type(clock) for clock in row} - {int}, set())
        for standing in (begun(TOWN), wound(TOWN, STANDING, [0, 2]), gone(TOWN, STANDING, ROWS)):
            self.assertEqual((type(standing), type(standing[0]), type(standing[1])), (tuple, int, tuple))
            self.assertEqual({type(left) for left in standing[1]}, {int})


if __name__ == "__main__":
    unittest.main()
