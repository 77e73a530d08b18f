import itertools
import random
import unittest

from tests import slow
from windround.days import begun, choices, gone, wound
from windround.errors import NoDay
from windround.plans import can_keep, keeps, plan_of


class Keeps(unittest.TestCase):
    def kept(self, town, first, again):
        self.assertIs(keeps(town, (first, again)), True, (town, first, again))

    def unkept(self, town, first, again):
        self.assertIs(keeps(town, (first, again)), False, (town, first, again))

    def test_plain_rounds(self):
        self.kept(([1], [1]), [], [[0]])
        self.kept(([2, 2], [1]), [], [[0], [1]])
        self.kept(([2, 4, 4], [1]), [], [[0], [1], [0], [2]])
        self.kept(([3, 3], [0, 0, 2]), [], [[], [], [0, 1]])
        self.kept(([2, 2], [1]), [[0]], [[1], [0]])
        self.kept(([2, 2], [2]), [[0, 1], []], [[0, 1], []])

    def test_a_round_without_rows(self):
        self.unkept(([5], [1]), [], [])
        self.unkept(([1], [1]), [[0]], [])
        self.unkept(([2, 2], [1]), [[0], [1]] * 1000, [])

    def test_the_round_is_a_multiple_of_the_hands(self):
        self.kept(([2], [1, 1]), [], [[0], [0]])
        self.kept(([2], [1, 1]), [], [[0], [0], [0], [0]])
        self.unkept(([2], [1, 1]), [], [[0]])
        self.unkept(([2], [1, 1]), [], [[0], [0], [0]])
        self.unkept(([2], [1, 1, 1]), [], [[0], [0]])

    def test_begun_may_have_any_number_of_rows(self):
        for many in range(5):
            self.kept(([2], [1, 1, 1]), [[0]] * many, [[0], [0], [0]])

    def test_begun_shifts_the_days_of_the_round(self):
        self.kept(([2], [1, 0]), [], [[0], []])
        self.unkept(([2], [1, 0]), [], [[], [0]])
        self.kept(([2], [1, 0]), [[0]], [[], [0]])
        self.unkept(([2], [1, 0]), [[0]], [[0], []])

    def test_rows_that_are_none(self):
        for bad in ([-1], [-1, 0], [2], [0, 2], [20], [1, 0], [0, 0], [1, 1], [0, 1, 1]):
            self.unkept(([9, 9], [6]), [bad], [[0, 1]])
            self.unkept(([9, 9], [6]), [], [bad, [0, 1]])
            self.unkept(([9, 9], [6]), [], [[0, 1], bad])
        self.kept(([9, 9], [6]), [[1]], [[0], [0, 1]])

    def test_more_clocks_than_hands(self):
        self.unkept(([9, 9], [1]), [], [[0, 1]])
        self.unkept(([9, 9], [1]), [[0, 1]], [[0], [1]])
        self.unkept(([9, 9], [2, 1]), [], [[], [0, 1]])
        self.kept(([9, 9], [2, 1]), [], [[0, 1], []])
        self.unkept(([9, 9], [2, 0]), [], [[0, 1], [0]])

    def test_too_late_in_begun(self):
        self.kept(([3], [1]), [[], [], [0]], [[0]])
        self.unkept(([3], [1]), [[], [], [], [0]], [[0]])
        self.kept(([3], [1]), [[0], [], [], [0]], [[0]])
        self.unkept(([3], [1]), [[0], [], [], [], [0]], [[0]])

    def test_too_late_in_the_round(self):
        self.kept(([3], [1]), [], [[0], [], [], [0]])
        self.unkept(([3], [1]), [], [[0], [], [], [], [0]])

    def test_too_late_at_the_very_beginning(self):
        self.kept(([3], [1]), [], [[], [], [0]])
        self.unkept(([3], [1]), [], [[], [], [], [0]])

    def test_too_late_from_begun_into_the_round(self):
        self.kept(([3], [1]), [[0], []], [[], [0]])
        self.unkept(([3], [1]), [[0], []], [[], [], [0]])
        self.kept(([3], [1]), [], [[], [], [0]])

    def test_too_late_from_the_rounds_end_into_its_beginning(self):
        self.kept(([3], [1]), [], [[], [0], []])
        self.unkept(([3], [1]), [], [[], [0], [], []])
        self.unkept(([3], [1]), [], [[], [0], [0], [], []])
        self.kept(([3], [1]), [], [[], [0], [0], []])

    def test_a_clock_that_the_round_leaves_out(self):
        self.unkept(([12], [1]), [], [[]])
        self.unkept(([12, 2], [1]), [[0]], [[1]])
        self.unkept(([12, 12], [2]), [[0, 1]], [[1], [1]])

    def test_the_greatest_lists_of_rows(self):
        rows = [[0], [1]] * 1000
        self.kept(([2, 2], [1]), rows, rows)
        self.unkept(([2, 2], [1]), rows, rows[:1999] + [[0]])
        self.unkept(([2, 2], [1]), rows[:1999] + [[0]], rows)

    def test_all_short_plans_against_the_slow_telling(self):
        rows = [[], [0], [1], [0, 1], [1, 0], [2]]
        firsts = [list(first) for many in range(3) for first in itertools.product(rows, repeat=many)]
        agains = [list(again) for many in (1, 2, 3) for again in itertools.product(rows[:4], repeat=many)]
        for town in (([2, 2], [1]), ([1, 3], [2, 1]), ([3, 2], [1, 2])):
            for first, again in itertools.product(firsts, agains):
                plan = (first, again)
                expected = len(again) % len(town[1]) == 0
                expected = expected and slow.keeps_days(town, plan, slow.long_enough(town, plan))
                self.assertIs(keeps(town, plan), expected, (town, plan))


class PlanOf(unittest.TestCase):
    def hold(self, town, expected):
        """The told plan, held against keeps, against gone, and day by day."""
        plan = plan_of(town)
        self.assertIs(plan is not None, expected, (town, plan))
        if plan is None:
            return
        self.assertIs(type(plan), tuple)
        self.assertEqual([type(part) for part in plan], [list, list])
        first, again = plan
        self.assertGreater(len(again), 0)
        self.assertEqual(len(again) % len(town[1]), 0, (town, plan))
        self.assertTrue(keeps(town, plan), (town, plan))
        self.assertTrue(slow.keeps_days(town, plan, slow.long_enough(town, plan)), (town, plan))
        here = begun(town)
        for row in first + again * 3:
            self.assertIn(row, choices(town, here))
            here = wound(town, here, row)
        self.assertEqual(gone(town, begun(town), first + again * 3), here)

    def test_towns_that_can_be_kept(self):
        for town in (
            ([1], [1]),
            ([2, 2], [1]),
            ([2, 2], [2, 0]),
            ([2, 2], [0, 2]),
            ([2, 2], [1, 1]),
            ([2, 4, 4], [1]),
            ([2, 4, 8, 8], [1]),
            ([3, 3, 3], [1]),
            ([5], [0, 0, 0, 0, 1]),
            ([1, 1, 1, 1, 1, 1], [6]),
            ([2, 4, 5], [1]),
            ([3, 4, 5, 8], [1]),
        ):
            self.hold(town, True)

    def test_towns_that_cannot(self):
        for town in (
            ([1], [0]),
            ([12], [0]),
            ([1], [1, 0]),
            ([1], [0, 1]),
            ([1, 1], [1]),
            ([4], [0, 0, 0, 0, 1]),
            ([2, 3, 12], [1]),
            ([2, 2, 12], [1]),
            ([3, 3, 4, 12], [1]),
            ([1, 1, 1, 1, 1, 1], [6, 5]),
        ):
            self.hold(town, False)

    def test_all_small_towns(self):
        for town in slow.small_towns():
            self.hold(town, begun(town) in slow.kept_standings(town))

    def test_towns_by_chance(self):
        for town in slow.chance_towns(random.Random(3), 120, 400):
            self.hold(town, begun(town) in slow.kept_standings(town))

    def test_the_greatest_towns(self):
        for town in slow.GREATEST + slow.chance_towns(random.Random(5), 25, 2000):
            self.hold(town, begun(town) in slow.kept_standings(town))

    def test_the_order_of_the_clocks_matters_not(self):
        for spans in itertools.permutations([2, 4, 5, 12]):
            self.assertEqual(plan_of((list(spans), [1])) is None, plan_of(([2, 4, 5, 12], [1])) is None)


class CanKeep(unittest.TestCase):
    def test_from_the_beginning_and_from_others(self):
        town = ([2, 2], [1])
        self.assertIs(can_keep(town, (0, (2, 2))), True)
        self.assertIs(can_keep(town, (0, (1, 2))), True)
        self.assertIs(can_keep(town, (0, (2, 1))), True)
        self.assertIs(can_keep(town, (0, (1, 1))), False)

    def test_from_other_days(self):
        town = ([2, 2], [2, 0])
        self.assertIs(can_keep(town, (0, (2, 2))), True)
        self.assertIs(can_keep(town, (0, (1, 1))), True)
        self.assertIs(can_keep(town, (1, (2, 2))), True)
        self.assertIs(can_keep(town, (1, (1, 2))), False)

    def test_kept_from_another_day_only(self):
        town = ([2, 3], [0, 1, 1])
        self.assertEqual(
            [can_keep(town, (day, (2, 3))) for day in range(3)],
            [(day, (2, 3)) in slow.kept_standings(town) for day in range(3)],
        )

    def test_all_standings_of_small_towns(self):
        for town in slow.small_towns():
            self.hold(town)

    def test_all_standings_of_towns_by_chance(self):
        for town in slow.chance_towns(random.Random(11), 40, 300):
            self.hold(town)

    def test_all_standings_of_the_greatest_towns(self):
        for town in slow.GREATEST:
            self.hold(town)

    def hold(self, town):
        kept = slow.kept_standings(town)
        for standing in slow.all_standings(town):
            self.assertIs(can_keep(town, standing), standing in kept, (town, standing))

    def test_it_is_so_just_where_some_choice_leads_on(self):
        for town in (([3, 3, 4], [1]), ([2, 3, 4], [1, 2]), ([2, 3, 6], [1])):
            for standing in slow.all_standings(town):
                ahead = [wound(town, standing, row) for row in choices(town, standing)]
                self.assertEqual(can_keep(town, standing), any(can_keep(town, other) for other in ahead))

    def test_a_refusal_is_no_answer_here(self):
        for town in slow.small_towns():
            try:
                can_keep(town, begun(town))
                plan_of(town)
                keeps(town, ([], [[0]]))
            except NoDay:
                self.fail(town)


if __name__ == "__main__":
    unittest.main()
