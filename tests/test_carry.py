import itertools
import math
import random
import unittest

from tests import slow
from windround.carry import carried_on, carried_out, joined_plan, joined_town, left_out, shared_out
from windround.plans import keeps, plan_of

TOWN = ([2, 4, 4], [1])
PLAN = ([[0], [1]], [[0], [2], [0], [1]])


def chance_plan(chance, town):
    """A plan of rising rows of clocks of the town, that hardly ever keeps it."""
    rows = slow.all_rows(town)
    first = [list(chance.choice(rows)) for day in range(chance.randint(0, 5))]
    many = len(town[1]) * chance.randint(1, 3)
    return (first, [list(chance.choice(rows)) for day in range(many)])


def kept_towns(chance, many):
    """So many towns with plans that keep them."""
    found = []
    while len(found) < many:
        town = slow.chance_towns(chance, 1, 200)[0]
        plan = plan_of(town)
        if plan is not None:
            found.append((town, plan))
    return found


def great_towns():
    """Towns of up to 12 clocks, spans up to 100 and up to 40 hands, with plans, kept and not."""
    rounds = [[day % 12] for day in range(60)]
    found = [
        (([12] * 12, [1]), ([], rounds[:12])),
        (([100] * 12, [1]), ([[]] * 88, rounds[:12])),
        (([100] * 12, [1]), ([[]] * 89, rounds[:12])),
        (([40] * 12, [0] * 28 + [1] * 12), ([], [[]] * 28 + rounds[:12])),
        (([100] * 12, [0] * 39 + [12]), ([[]] * 39 + [list(range(12))], [[]] * 39 + [list(range(12))])),
        (([39] * 12, [0] * 39 + [12]), ([], [[]] * 39 + [list(range(12))])),
    ]
    return [(town, ([list(row) for row in first], [list(row) for row in again]))
            for town, (first, again) in found]


def windings(plan, clock, days):
    return [day for day in range(days) if clock in slow.row_at(plan, day)]


class SharedOut(unittest.TestCase):
    def test_plain_ones(self):
        self.assertEqual(shared_out(([3, 5, 7], [1, 2]), 1, 2), ([3, 10, 10, 7], [1, 2]))
        self.assertEqual(shared_out(([3, 5, 7], [1, 2]), 0, 3), ([9, 9, 9, 5, 7], [1, 2]))
        self.assertEqual(shared_out(([3, 5, 7], [1, 2]), 2, 4), ([3, 5, 28, 28, 28, 28], [1, 2]))
        self.assertEqual(shared_out(([1], [0]), 0, 6), ([6] * 6, [0]))

    def test_shared_out_to_one(self):
        for clock in range(3):
            self.assertEqual(shared_out(([3, 5, 7], [1, 2]), clock, 1), ([3, 5, 7], [1, 2]))

    def test_great_towns(self):
        self.assertEqual(shared_out(([100] * 12, list(range(40))), 11, 6), ([100] * 11 + [600] * 6, list(range(40))))


class CarriedOut(unittest.TestCase):
    def hold(self, town, plan, clock, many):
        """The carried plan, held against the windings of the plan, clock by clock, over some rounds."""
        told = carried_out(town, plan, clock, many)
        self.assertEqual([type(told)] + [type(part) for part in told], [tuple, list, list])
        self.assertEqual(len(told[0]), len(plan[0]))
        self.assertEqual(len(told[1]), many * len(plan[1]))
        days = len(plan[0]) + 2 * many * len(plan[1])
        own = windings(plan, clock, days)
        for number in range(len(town[0]) + many - 1):
            if number < clock:
                expected = windings(plan, number, days)
            elif number < clock + many:
                expected = own[number - clock::many]
            else:
                expected = windings(plan, number - many + 1, days)
            self.assertEqual(windings(told, number, days), expected, (town, plan, clock, many, number))
        for row in told[0] + told[1]:
            self.assertEqual(row, sorted(set(row)))
            self.assertTrue(set(row) <= set(range(len(town[0]) + many - 1)))
        if keeps(town, plan):
            self.assertTrue(keeps(shared_out(town, clock, many), told), (town, plan, clock, many))

    def test_plain_ones(self):
        self.assertEqual(
            carried_out(([2, 2], [1]), ([], [[0], [1]]), 0, 2),
            ([], [[0], [2], [1], [2]]),
        )
        self.assertEqual(
            carried_out(([2, 2], [1]), ([], [[0], [1]]), 1, 3),
            ([], [[0], [1], [0], [2], [0], [3]]),
        )

    def test_windings_of_begun_are_counted_too(self):
        self.assertEqual(
            carried_out(([2, 2], [1]), ([[0]], [[1], [0]]), 0, 2),
            ([[0]], [[2], [1], [2], [0]]),
        )
        self.assertEqual(
            carried_out(([1], [1]), ([[0], [0]], [[0]]), 0, 3),
            ([[0], [1]], [[2], [0], [1]]),
        )

    def test_the_count_goes_on_over_the_whole_round(self):
        self.assertEqual(
            carried_out(([1], [1]), ([], [[0], [0]]), 0, 3),
            ([], [[0], [1], [2], [0], [1], [2]]),
        )
        self.assertEqual(
            carried_out(([2], [1]), ([[0]], [[0], [0], []]), 0, 2),
            ([[0]], [[1], [0], [], [1], [0], []]),
        )

    def test_shared_out_to_one(self):
        for clock in range(3):
            self.assertEqual(carried_out(TOWN, PLAN, clock, 1), PLAN)

    def test_a_clock_that_is_never_wound(self):
        self.assertEqual(carried_out(([2, 9], [1]), ([], [[0]]), 1, 2), ([], [[0], [0]]))
        self.assertEqual(carried_out(([9, 2], [1]), ([], [[1]]), 0, 2), ([], [[2], [2]]))
        self.assertEqual(carried_out(([9, 2], [2]), ([[0, 1]], [[1]]), 0, 3), ([[0, 3]], [[3], [3], [3]]))

    def test_plans_that_keep_their_town(self):
        for town, plan in kept_towns(random.Random(103), 60):
            for clock in range(len(town[0])):
                for many in (1, 2, 3, 6):
                    self.assertTrue(keeps(town, plan))
                    self.hold(town, plan, clock, many)

    def test_plans_by_chance(self):
        chance = random.Random(107)
        for town in slow.chance_towns(chance, 200, 2000):
            self.hold(town, chance_plan(chance, town), chance.randrange(len(town[0])), chance.randint(1, 6))

    def test_great_towns(self):
        self.assertEqual([keeps(town, plan) for town, plan in great_towns()], [True, True, False, True, True, False])
        for town, plan in great_towns():
            for clock in (0, 5, 11):
                for many in (2, 6):
                    self.hold(town, plan, clock, many)

    def test_long_plans(self):
        plan = ([[0], [1]] * 1000, [[0], [1]] * 1000)
        told = carried_out(([2, 2], [1]), plan, 0, 6)
        self.assertEqual([len(part) for part in told], [2000, 12000])
        self.assertTrue(keeps(([12] * 6 + [2], [1]), told))


class LeftOut(unittest.TestCase):
    def test_plain_ones(self):
        self.assertEqual(left_out(([3, 5, 7], [1, 2]), 0), ([5, 7], [1, 2]))
        self.assertEqual(left_out(([3, 5, 7], [1, 2]), 1), ([3, 7], [1, 2]))
        self.assertEqual(left_out(([3, 5, 7], [1, 2]), 2), ([3, 5], [1, 2]))
        self.assertEqual(left_out(([3, 3], [0]), 1), ([3], [0]))

    def test_great_towns(self):
        spans = list(range(89, 101))
        self.assertEqual(left_out((spans, [3] * 40), 11), (spans[:11], [3] * 40))


class CarriedOn(unittest.TestCase):
    def hold(self, town, plan, clock):
        told = carried_on(town, plan, clock)
        self.assertEqual([type(told)] + [type(part) for part in told], [tuple, list, list])
        self.assertEqual([len(part) for part in told], [len(part) for part in plan])
        days = len(plan[0]) + len(plan[1])
        others = [number for number in range(len(town[0])) if number != clock]
        for number, other in enumerate(others):
            self.assertEqual(windings(told, number, days), windings(plan, other, days))
        for row in told[0] + told[1]:
            self.assertEqual(row, sorted(set(row)))
            self.assertTrue(set(row) <= set(range(len(others))))
        if keeps(town, plan):
            self.assertTrue(keeps(left_out(town, clock), told), (town, plan, clock))

    def test_plain_ones(self):
        self.assertEqual(carried_on(TOWN, PLAN, 0), ([[], [0]], [[], [1], [], [0]]))
        self.assertEqual(carried_on(TOWN, PLAN, 1), ([[0], []], [[0], [1], [0], []]))
        self.assertEqual(carried_on(TOWN, PLAN, 2), ([[0], [1]], [[0], [], [0], [1]]))
        self.assertEqual(carried_on(([3, 3, 3], [3]), ([], [[0, 1, 2], [1], [0, 2]]), 1), ([], [[0, 1], [], [0, 1]]))

    def test_plans_that_keep_their_town(self):
        for town, plan in kept_towns(random.Random(109), 120):
            if len(town[0]) > 1:
                for clock in range(len(town[0])):
                    self.hold(town, plan, clock)

    def test_plans_by_chance(self):
        chance = random.Random(113)
        for town in slow.chance_towns(chance, 200, 2000):
            if len(town[0]) > 1:
                self.hold(town, chance_plan(chance, town), chance.randrange(len(town[0])))

    def test_great_towns(self):
        for town, plan in great_towns():
            for clock in range(12):
                self.hold(town, plan, clock)

    def test_a_plan_may_keep_what_is_left_alone(self):
        plan = ([], [[0], [0]])
        self.assertFalse(keeps(([1, 5], [1]), plan))
        self.assertTrue(keeps(left_out(([1, 5], [1]), 1), carried_on(([1, 5], [1]), plan, 1)))


class JoinedTown(unittest.TestCase):
    def test_plain_ones(self):
        self.assertEqual(joined_town(([3], [1]), ([5, 2], [2])), ([3, 5, 2], [3]))
        self.assertEqual(joined_town(([3], [1, 0]), ([5], [0, 2])), ([3, 5], [1, 2]))

    def test_hands_of_different_lengths(self):
        self.assertEqual(joined_town(([3], [1]), ([5], [0, 1, 2])), ([3, 5], [1, 2, 3]))
        self.assertEqual(joined_town(([3], [1, 0]), ([5], [0, 1, 2])), ([3, 5], [1, 1, 3, 0, 2, 2]))
        self.assertEqual(
            joined_town(([3], [1, 0, 0, 0]), ([5], [0, 1, 2, 3, 4, 5])),
            ([3, 5], [1, 1, 2, 3, 5, 5, 0, 1, 3, 3, 4, 5]),
        )

    def test_the_days_are_the_least_number_that_both_counts_divide(self):
        for one, other in itertools.product(range(1, 9), repeat=2):
            ones, others = list(range(one)), list(range(0, 10 * other, 10))
            town = joined_town(([1], ones), ([2], others))
            self.assertEqual(len(town[1]), math.lcm(one, other))
            self.assertEqual(town[1], [ones[day % one] + others[day % other] for day in range(math.lcm(one, other))])

    def test_great_towns(self):
        town = joined_town(([100] * 12, [1] * 40), ([99] * 12, [2] * 39))
        self.assertEqual(town, ([100] * 12 + [99] * 12, [3] * 1560))


class JoinedPlan(unittest.TestCase):
    def hold(self, one, plan, other, other_plan):
        told = joined_plan(one, plan, other_plan)
        self.assertEqual([type(told)] + [type(part) for part in told], [tuple, list, list])
        self.assertEqual(len(told[0]), max(len(plan[0]), len(other_plan[0])))
        self.assertEqual(len(told[1]), math.lcm(len(plan[1]), len(other_plan[1])))
        more = len(one[0])
        for day in range(len(told[0]) + 2 * len(told[1])):
            row = slow.row_at(told, day)
            self.assertEqual([clock for clock in row if clock < more], slow.row_at(plan, day))
            self.assertEqual([clock - more for clock in row if clock >= more], slow.row_at(other_plan, day))
            self.assertEqual(row, sorted(set(row)))
        if keeps(one, plan) and keeps(other, other_plan):
            self.assertTrue(keeps(joined_town(one, other), told), (one, plan, other, other_plan))

    def test_plain_ones(self):
        self.assertEqual(
            joined_plan(([2, 2], [1]), ([], [[0], [1]]), ([], [[0]])),
            ([], [[0, 2], [1, 2]]),
        )
        self.assertEqual(
            joined_plan(([1], [1]), ([], [[0]]), ([], [[0], [], [1]])),
            ([], [[0, 1], [0], [0, 2]]),
        )

    def test_rounds_of_different_lengths(self):
        self.assertEqual(
            joined_plan(([2, 2], [1]), ([], [[0], [1]]), ([], [[0], [], []])),
            ([], [[0, 2], [1], [0], [1, 2], [0], [1]]),
        )

    def test_begun_of_different_lengths(self):
        self.assertEqual(
            joined_plan(([2, 2], [1]), ([[0]], [[1], [0]]), ([[], [], []], [[0]])),
            ([[0], [1], [0]], [[1, 2], [0, 2]]),
        )
        self.assertEqual(
            joined_plan(([9], [1]), ([[], [], []], [[0]]), ([[0]], [[1], [0]])),
            ([[1], [2], [1]], [[0, 2], [0, 1]]),
        )

    def test_plans_that_keep_their_towns(self):
        kept = kept_towns(random.Random(127), 60)
        for one, other in zip(kept, kept[1:]):
            if len(one[1][1]) * len(other[1][1]) < 3000:
                self.hold(one[0], one[1], other[0], other[1])
                self.hold(other[0], other[1], one[0], one[1])

    def test_plans_by_chance(self):
        chance = random.Random(131)
        for turn in range(150):
            one, other = slow.chance_towns(chance, 2, 500)
            self.hold(one, chance_plan(chance, one), other, chance_plan(chance, other))

    def test_great_towns(self):
        for one, other in itertools.product(great_towns(), repeat=2):
            self.hold(one[0], one[1], other[0], other[1])

    def test_where_one_does_not_keep_its_town_the_joined_one_need_not(self):
        one, other = ([2, 2], [1]), ([1], [1])
        told = joined_plan(one, ([], [[0]]), ([], [[0]]))
        self.assertFalse(keeps(joined_town(one, other), told))

    def test_long_rounds(self):
        one, other = ([2, 2], [1]), ([3, 3, 3], [1])
        plan, other_plan = ([], [[0], [1]] * 500), ([[0]], [[1], [2], [0]] * 333)
        told = joined_plan(one, plan, other_plan)
        self.assertEqual([len(part) for part in told], [1, 999000])
        self.assertEqual(told[1][:6], [[1, 3], [0, 4], [1, 2], [0, 3], [1, 4], [0, 2]])
        self.assertEqual(told[1][-6:], told[1][:6])


if __name__ == "__main__":
    unittest.main()
