import itertools
import random
import unittest
from fractions import Fraction

from tests import slow
from windround.carry import joined_plan, joined_town
from windround.costs import cost_of, least_cost, prices_hold
from windround.days import begun, gone
from windround.even import chain_plan, days_of
from windround.plans import keeps, plan_of

DEAR = 10 ** 20 - 1
ONE = ([3], [1])
TWO = ([2, 3], [1])


def as_tuple(number):
    return (number.numerator, number.denominator)


def costs_for(chance, clocks):
    """Lists of costs of several sorts: small, of up to 20 figures, far apart, all the same, many of them 0."""
    return [
        [chance.randint(0, 5) for clock in range(clocks)],
        [chance.randint(0, DEAR) for clock in range(clocks)],
        [10 ** chance.randint(0, 19) for clock in range(clocks)],
        [1] * clocks,
        [chance.choice([0, 0, 7]) for clock in range(clocks)],
    ]


class CostOf(unittest.TestCase):
    def test_plain_plans(self):
        self.assertEqual(cost_of(([], [[0], [1], [0], [2]]), [1, 2, 4]), (2, 1))
        self.assertEqual(cost_of(([], [[0], [1], [0]]), [1, 5]), (7, 3))
        self.assertEqual(cost_of(([], [[0, 1, 2]]), [1, 2, 4]), (7, 1))
        self.assertEqual(cost_of(([], [[1], []]), [100, 3]), (3, 2))

    def test_lowest_terms(self):
        self.assertEqual(cost_of(([], [[0], [1], [0], [1]]), [1, 2]), (3, 2))
        self.assertEqual(cost_of(([], [[0], [], [], [], [], []]), [4]), (2, 3))
        self.assertEqual(cost_of(([], [[0]] * 12), [1]), (1, 1))

    def test_no_cost_is_nought_over_one(self):
        self.assertEqual(cost_of(([], [[]]), [5]), (0, 1))
        self.assertEqual(cost_of(([], [[], [], []]), [5]), (0, 1))
        self.assertEqual(cost_of(([[1]], [[0], [0], [0], [0]]), [0, 9]), (0, 1))

    def test_the_round_alone_counts(self):
        self.assertEqual(cost_of(([[0], [0, 1]], [[1], []]), [1000, 3]), (3, 2))
        self.assertEqual(cost_of(([[0]] * 2000, [[]]), [1]), (0, 1))

    def test_costs_of_twenty_figures(self):
        self.assertEqual(cost_of(([], [[0, 1], [0], [1]]), [DEAR, DEAR - 1]), (4 * DEAR - 2, 3))
        self.assertEqual(cost_of(([], [[0], [0, 1], []]), [DEAR, 3 * 10 ** 19]), (2 * DEAR // 3 + 10 ** 19, 1))

    def test_against_fractions(self):
        chance = random.Random(1)
        for turn in range(300):
            many = chance.randint(1, 6)
            rows = [sorted(chance.sample(range(many), chance.randint(0, many))) for day in range(chance.randint(1, 9))]
            for costs in costs_for(chance, many):
                whole = Fraction(sum(costs[clock] for row in rows for clock in row), len(rows))
                self.assertEqual(cost_of(([[0]], rows), costs), as_tuple(whole))


class LeastCost(unittest.TestCase):
    def told(self, town, costs):
        """What is told, held against everything that the document says of it."""
        fraction, plan, prices = least_cost(town, costs)
        self.assertGreaterEqual(fraction[1], 1)
        self.assertEqual(as_tuple(Fraction(*fraction)), fraction)
        self.assertEqual(cost_of(plan, costs), fraction, town)
        self.assertTrue(keeps(town, plan), town)
        self.assertTrue(slow.keeps_days(town, plan, slow.long_enough(town, plan)), town)
        gone(town, begun(town), plan[0] + plan[1] * 3)
        self.assertEqual(len(plan[1]) % len(town[1]), 0)
        steps = slow.kept_steps(town)
        self.assertEqual([standing for standing, price in prices], sorted(steps), town)
        self.assertTrue(prices_hold(town, costs, fraction, prices), town)
        self.assertTrue(slow.holding_in(steps, costs, fraction, prices), town)
        return fraction

    def test_one_clock(self):
        self.assertEqual(self.told(ONE, [7]), (7, 3))
        self.assertEqual(self.told(([1], [1]), [7]), (7, 1))
        self.assertEqual(self.told(([12], [6]), [6]), (1, 2))
        self.assertEqual(self.told(([3], [1, 0]), [7]), (7, 2))
        self.assertEqual(self.told(([3], [1, 0, 0]), [DEAR]), (DEAR // 3, 1))

    def test_clocks_that_stand_in_one_anothers_way(self):
        self.assertEqual(self.told(TWO, [1, 1]), (1, 1))
        self.assertEqual(self.told(TWO, [1, 5]), (7, 3))
        self.assertEqual(self.told(TWO, [5, 1]), (3, 1))
        self.assertEqual(self.told(TWO, [0, 1]), (1, 3))
        self.assertEqual(self.told(TWO, [1, 0]), (1, 2))

    def test_no_cost_at_all(self):
        for town in (ONE, TWO, ([2, 4, 4], [1]), ([12, 12, 12], [1])):
            self.assertEqual(self.told(town, [0] * len(town[0])), (0, 1))

    def test_a_dear_clock_is_wound_as_seldom_as_can_be(self):
        self.assertEqual(self.told(([2, 12], [2]), [1, 1000]), (503, 6))
        fraction, plan, prices = least_cost(([2, 12], [2]), [1, 1000])
        self.assertEqual(Fraction(sum(1 in row for row in plan[1]), len(plan[1])), Fraction(1, 12))
        self.assertEqual(self.told(([2, 3, 12], [1, 2]), [0, 0, DEAR]), as_tuple(Fraction(DEAR, 12)))
        self.assertEqual(self.told(([2, 3, 12], [2]), [1, 1, DEAR]), as_tuple(Fraction(DEAR, 12) + Fraction(5, 6)))

    def test_only_rows_that_use_few_hands_are_cheap(self):
        self.assertEqual(self.told(([4, 6, 12], [3]), [1, 1, 1]), (1, 2))
        self.assertEqual(self.told(([4, 6, 12], [6]), [12, 12, 12]), (6, 1))
        self.assertEqual(self.told(([5, 5], [2, 2, 2]), [3, 2]), (1, 1))
        fraction, plan, prices = least_cost(([6, 6, 6], [3]), [1, 1, 1])
        self.assertEqual((fraction, sum(len(row) for row in plan[1]) * 2), ((1, 2), len(plan[1])))

    def test_the_beginning_need_not_lie_in_the_round(self):
        self.assertEqual(self.told(([3, 3], [0, 1, 1]), [1, 1]), (2, 3))
        self.assertEqual(self.told(([12, 2, 12], [0, 2, 0, 1, 0, 1]), [3, 1, 5]), as_tuple(Fraction(1, 2) + Fraction(8, 12)))

    def test_a_cheap_way_that_only_some_standings_lead_to(self):
        """Each of these towns can be kept from 9 standings or more that never lead to the cheapest round again."""
        self.assertEqual(self.told(([3, 5, 7], [1, 0, 1, 1, 1]), [1, 0, 4]), (1, 1))
        self.assertEqual(self.told(([3, 5, 7], [1, 1, 1, 1, 0]), [0, 3, 7]), (9, 5))
        self.assertEqual(self.told(([7, 5, 3], [1, 1, 0, 1, 1]), [3, 1, 8]), (39, 10))
        self.assertEqual(self.told(([7, 3, 5], [0, 1, 1, 1, 1]), [5, 4, 2]), (57, 20))

    def test_none_just_where_no_plan_is_told(self):
        for town in slow.small_towns() + slow.chance_towns(random.Random(3), 150, 300):
            costs = [2 + clock for clock in range(len(town[0]))]
            self.assertEqual(least_cost(town, costs) is None, plan_of(town) is None, town)

    def test_all_small_towns(self):
        chance = random.Random(4)
        for town in slow.small_towns():
            if plan_of(town) is not None:
                for costs in chance.sample(costs_for(chance, len(town[0])), 2):
                    self.told(town, costs)

    def test_against_another_way_to_find_it(self):
        chance = random.Random(5)
        found = 0
        for town in slow.small_towns()[::3] + slow.chance_towns(chance, 250, 120):
            if len(slow.kept_steps(town)) in range(1, 61):
                for costs in chance.sample(costs_for(chance, len(town[0])), 2):
                    self.assertEqual(self.told(town, costs), as_tuple(slow.least_mean(town, costs)), (town, costs))
                    found += 1
        self.assertGreater(found, 150)

    def test_no_short_round_costs_less(self):
        for town, days in ((TWO, 6), (([2, 2], [2]), 4), (([2, 3], [1, 2]), 4), (([3, 3, 3], [1]), 3), (([3], [1]), 6)):
            many = len(town[0])
            for costs in ([1, 5, 3][:many], [5, 1, 0][:many], [DEAR, 1, 7][:many]):
                least = Fraction(*self.told(town, costs))
                rows = slow.all_rows(town)
                for length in range(1, days + 1):
                    for again in itertools.product(rows, repeat=length):
                        plan = ([], list(again))
                        if keeps(town, plan):
                            self.assertGreaterEqual(Fraction(*cost_of(plan, costs)), least)

    def test_no_plan_made_by_hand_costs_less(self):
        plan = ([], [[0], [1]])
        by_hand = [
            (([2, 4, 8, 8], [1]), days_of(chain_plan([2, 4, 8, 8], 1))),
            (([2, 4, 4], [2]), days_of(chain_plan([2, 4, 4], 2))),
            (([2, 4, 5], [1]), ([], [[0], [1], [0], [2]])),
            (([2, 4, 5], [3]), ([[0, 1, 2]], [[], [0], [1], [0, 2]])),
            (joined_town(([2, 2], [1]), ([3], [1, 0, 0])), joined_plan(([2, 2], [1]), plan, ([], [[0], [], []]))),
        ]
        for town, other in by_hand:
            self.assertTrue(keeps(town, other))
            for costs in costs_for(random.Random(6), len(town[0])):
                self.assertLessEqual(Fraction(*self.told(town, costs)), Fraction(*cost_of(other, costs)))

    def test_towns_of_the_greatest_size(self):
        chance = random.Random(7)
        more = [([3, 3, 3, 4, 4, 4], [6]), ([2, 2, 2, 5, 5, 10], [6]), ([12, 12, 12], [3]), ([8, 2, 10, 11], [3])]
        more += [([5, 8, 9], [2, 2, 2, 3, 3]), ([10, 9, 4], [3, 3, 2, 3, 2])]
        for town in slow.GREATEST + more:
            if plan_of(town) is None:
                self.assertIsNone(least_cost(town, [1] * len(town[0])))
            else:
                self.told(town, chance.choice(costs_for(chance, len(town[0]))))

    def test_as_many_prices_as_can_be(self):
        town = ([4, 4, 5, 5, 5], [6])
        self.assertEqual(self.told(town, [DEAR] * 5), as_tuple(DEAR * Fraction(11, 10)))
        self.assertEqual(len(least_cost(town, [1] * 5)[2]), 2000)


class PricesHold(unittest.TestCase):
    def hold(self, town, costs, fraction, prices):
        self.assertIs(prices_hold(town, costs, fraction, prices), True)
        self.assertTrue(slow.holding(town, costs, fraction, prices))

    def not_hold(self, town, costs, fraction, prices):
        self.assertIs(prices_hold(town, costs, fraction, prices), False)
        self.assertFalse(slow.holding(town, costs, fraction, prices))

    def cases(self):
        chance = random.Random(8)
        towns = [ONE, TWO, ([2, 4, 4], [1]), ([3, 3], [0, 1, 1]), ([2, 3, 5], [1, 2]), ([4, 5, 6], [1])]
        for town in towns + slow.chance_towns(chance, 60, 100):
            if plan_of(town) is not None:
                for costs in costs_for(chance, len(town[0]))[:3]:
                    fraction, plan, prices = least_cost(town, costs)
                    yield town, costs, fraction, plan, prices

    def test_prices_made_by_hand(self):
        prices = [((0, (1,)), 14), ((0, (2,)), 7), ((0, (3,)), 0)]
        self.hold(ONE, [7], (7, 3), prices)
        self.hold(ONE, [7], (7, 3), prices[::-1])
        self.hold(ONE, [7], (2, 1), [((0, (1,)), 4), ((0, (2,)), 2), ((0, (3,)), 0)])
        self.not_hold(ONE, [7], (5, 2), [((0, (1,)), 10), ((0, (2,)), 5), ((0, (3,)), 0)])
        self.not_hold(ONE, [7], (7, 3), [((0, (1,)), 0), ((0, (2,)), 7), ((0, (3,)), 14)])

    def test_the_told_ones_in_any_order(self):
        for town, costs, fraction, plan, prices in self.cases():
            self.hold(town, costs, fraction, prices)
            self.hold(town, costs, fraction, prices[::-1])

    def test_all_more_or_less_by_one_number(self):
        for town, costs, fraction, plan, prices in self.cases():
            for more in (1, -1, 10 ** 30, -(10 ** 30)):
                self.hold(town, costs, fraction, [(standing, price + more) for standing, price in prices])

    def test_one_left_out_or_twice(self):
        for town, costs, fraction, plan, prices in self.cases():
            for place in {0, len(prices) // 2, len(prices) - 1}:
                standing, price = prices[place]
                self.not_hold(town, costs, fraction, prices[:place] + prices[place + 1:])
                self.not_hold(town, costs, fraction, prices + [(standing, price)])
                self.not_hold(town, costs, fraction, [(standing, price + 1)] + prices)
                self.not_hold(town, costs, fraction, prices[:place] + prices[place + 1:] + [prices[place - 1]] * 2)
            self.not_hold(town, costs, fraction, [])

    def test_one_in_the_place_of_another(self):
        town = ([2, 4, 4], [1])
        fraction, plan, prices = least_cost(town, [1, 1, 1])
        known = [standing for standing, price in prices]
        for standing in slow.all_standings(town):
            if standing not in known:
                for place in range(len(prices)):
                    other = prices[:place] + [(standing, prices[place][1])] + prices[place + 1:]
                    self.not_hold(town, [1, 1, 1], fraction, other)

    def test_one_more_that_cannot_be_come_to_or_is_lost(self):
        lost = 0
        for town, costs, fraction, plan, prices in self.cases():
            kept = slow.kept_standings(town)
            known = {standing for standing, price in prices}
            for standing in slow.all_standings(town):
                if standing not in known:
                    lost += standing not in kept
                    for price in (0, 10 ** 40, -(10 ** 40)):
                        self.assertIs(prices_hold(town, costs, fraction, prices + [(standing, price)]), False)
                    break
        self.assertGreater(lost, 5)
        town = ([5, 5], [0, 1])
        beside = [one for one in slow.kept_standings(town) if one not in slow.kept_steps(town)]
        fraction, plan, prices = least_cost(town, [1, 2])
        self.assertIn((1, (5, 5)), beside)
        for standing in beside:
            self.not_hold(town, [1, 2], fraction, prices + [(standing, 0)])

    def test_a_price_of_the_round_one_more_or_one_less(self):
        for town, costs, fraction, plan, prices in self.cases():
            if len(plan[1]) > 1:
                standing = gone(town, begun(town), plan[0] + plan[1])
                for more in (1, -1):
                    other = [(one, price + more * (one == standing)) for one, price in prices]
                    self.not_hold(town, costs, fraction, other)

    def test_any_price_a_little_more_or_less(self):
        chance = random.Random(9)
        held = set()
        for town, costs, fraction, plan, prices in self.cases():
            for turn in range(10):
                place = chance.randrange(len(prices))
                standing, price = prices[place]
                new = price + chance.choice([-1, 1, -fraction[1], fraction[1], -fraction[0], fraction[0]])
                other = prices[:place] + [(standing, new)] + prices[place + 1:]
                told = prices_hold(town, costs, fraction, other)
                self.assertEqual(told, slow.holding(town, costs, fraction, other))
                held.add(told)
        self.assertEqual(held, {True, False})

    def test_a_fraction_a_little_more_or_less(self):
        for town, costs, (above, below), plan, prices in self.cases():
            for times in (below, below * 10 ** 6):
                finer = [(standing, price * times) for standing, price in prices]
                self.hold(town, costs, (above * times - 1, below * times), finer)
                self.not_hold(town, costs, (above * times + 1, below * times), finer)
            self.not_hold(town, costs, (above + 1, 1), prices)

    def test_fractions_of_no_worth(self):
        for town, costs, fraction, plan, prices in self.cases():
            level = [(standing, 5) for standing, price in prices]
            for other in ((0, 1), (-1, 1), (-7, 3), (-(10 ** 30), 7)):
                self.hold(town, costs, other, level)
            self.not_hold(town, costs, (10 ** 21 * 6, 1), level)

    def test_other_costs(self):
        fraction, plan, prices = least_cost(TWO, [1, 5])
        self.hold(TWO, [1, 6], fraction, prices)
        self.not_hold(TWO, [1, 4], fraction, prices)
        self.not_hold(TWO, [0, 5], fraction, prices)

    def test_a_town_that_cannot_be_kept(self):
        for town in (([1], [0]), ([2, 2, 2], [1]), ([2, 3, 12], [1]), ([1], [1, 0])):
            costs = [1] * len(town[0])
            for fraction in ((0, 1), (1, 1), (-3, 2), (10 ** 20, 3)):
                self.hold(town, costs, fraction, [])
                self.not_hold(town, costs, fraction, [(begun(town), 0)])
                self.not_hold(town, costs, fraction, [(one, 0) for one in slow.all_standings(town)])


if __name__ == "__main__":
    unittest.main()
