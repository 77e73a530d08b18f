import itertools
import unittest

from tests import slow
from windround.days import choices, wound
from windround.order import no_tighter, no_worse
from windround.plans import keeps, plan_of


class NoWorse(unittest.TestCase):
    def both_ways(self, one, other, there, back):
        self.assertIs(no_worse(one, other), there, (one, other))
        self.assertIs(no_worse(other, one), back, (other, one))

    def test_no_left_is_less(self):
        self.both_ways((0, (3, 4)), (0, (3, 4)), True, True)
        self.both_ways((0, (3, 4)), (0, (2, 4)), True, False)
        self.both_ways((0, (3, 4)), (0, (3, 3)), True, False)
        self.both_ways((0, (3, 4)), (0, (1, 1)), True, False)

    def test_neither_is_no_worse(self):
        self.both_ways((0, (3, 1)), (0, (2, 4)), False, False)

    def test_other_days(self):
        self.both_ways((0, (3, 4)), (1, (3, 4)), False, False)
        self.both_ways((2, (3, 4)), (1, (1, 1)), False, False)
        self.both_ways((2, (3, 4)), (2, (1, 1)), True, False)

    def test_what_may_be_wound_in_the_worse_may_be_in_the_better_and_it_stays_so(self):
        for town in (([2, 3, 3], [1, 2]), ([1, 3, 2], [2]), ([4, 4], [0, 1])):
            standings = slow.all_standings(town)
            for one, other in itertools.product(standings, standings):
                if no_worse(one, other):
                    for row in choices(town, other):
                        self.assertIn(row, choices(town, one))
                        self.assertTrue(no_worse(wound(town, one, row), wound(town, other, row)))

    def test_further_clocks_leave_the_standing_no_worse(self):
        for town in (([2, 3, 3], [1, 2]), ([1, 3, 2], [3])):
            for standing in slow.all_standings(town):
                rows = choices(town, standing)
                for less, more in itertools.product(rows, rows):
                    if set(less) <= set(more):
                        self.assertTrue(no_worse(wound(town, standing, more), wound(town, standing, less)))


class NoTighter(unittest.TestCase):
    def both_ways(self, one, other, there, back):
        self.assertIs(no_tighter(one, other), there, (one, other))
        self.assertIs(no_tighter(other, one), back, (other, one))

    def test_the_same(self):
        self.both_ways(([3, 4], [1, 0]), ([3, 4], [1, 0]), True, True)

    def test_spans(self):
        self.both_ways(([3, 5], [1]), ([3, 4], [1]), True, False)
        self.both_ways(([4, 4], [1]), ([3, 4], [1]), True, False)
        self.both_ways(([4, 3], [1]), ([3, 4], [1]), False, False)

    def test_hands(self):
        self.both_ways(([3], [1, 1]), ([3], [0, 1]), True, False)
        self.both_ways(([3], [1, 1]), ([3], [1, 0]), True, False)
        self.both_ways(([3], [1, 0]), ([3], [0, 1]), False, False)

    def test_spans_against_hands(self):
        self.both_ways(([4], [1]), ([3], [2]), False, False)
        self.both_ways(([4], [2]), ([3], [1]), True, False)

    def test_other_numbers_of_clocks(self):
        self.both_ways(([3], [1]), ([3, 4], [1]), False, False)
        self.both_ways(([20], [1]), ([3, 4], [1]), False, False)

    def test_other_numbers_of_days(self):
        self.both_ways(([3], [1]), ([3], [1, 1]), False, False)
        self.both_ways(([3], [20]), ([3], [1, 1]), False, False)

    def test_eight_clocks_and_eight_hands(self):
        one = ([20] * 8, [20] * 8)
        self.both_ways(one, ([20] * 7 + [19], [20] * 8), True, False)
        self.both_ways(one, ([20] * 8, [20] * 7 + [19]), True, False)
        self.both_ways(one, ([20] * 8, [20] * 7), False, False)

    def test_plans_of_the_tighter_keep_the_other(self):
        towns = slow.small_towns()
        for other in towns:
            plan = plan_of(other)
            if plan is not None:
                for one in towns:
                    if no_tighter(one, other):
                        self.assertTrue(keeps(one, plan), (one, other, plan))


if __name__ == "__main__":
    unittest.main()
