import itertools
import math
import random
import unittest
from fractions import Fraction

from tests import slow
from windround.even import chain_plan, clash, days_of, even_plan, is_even, row_on, rounded
from windround.plans import keeps, plan_of
from windround.shares import share

GREAT = 10 ** 40 - 1


def share_of(spans):
    return sum((Fraction(1, span) for span in spans), Fraction(0))


def common_day(one, other):
    """Whether two tuples of an even plan have one winder and a common day, by [16] alone."""
    return one[0] == other[0] and (one[1] - other[1]) % math.gcd(one[2], other[2]) == 0


def keeps_evenly(town, even):
    """Point [15], told plainly."""
    spans, (winders,) = town
    if len(even) != len(spans):
        return False
    for (winder, rest, step), span in zip(even, spans):
        if winder not in range(winders) or step not in range(1, span + 1) or rest not in range(step):
            return False
    return not any(common_day(one, other) for one, other in itertools.combinations(even, 2))


def chance_chain(chance, many, most):
    """So many spans, in any order, of which of any two one divides the other, up to a greatest one."""
    spans = [chance.choice([1, 1, 2, 3, 7])]
    while len(spans) < many:
        factor = chance.choice([1, 1, 1, 2, 2, 3, 5, 10 ** 9])
        spans.append(spans[-1] * factor if spans[-1] * factor <= most else spans[-1])
    chance.shuffle(spans)
    return spans


def least_x(spans, winders):
    """The least x by which a town fits, of those up to 250, by [18] alone."""
    for x in range(1, min(spans + [250]) + 1):
        steps = [x << (span // x).bit_length() - 1 for span in spans]
        if share_of(steps) <= winders:
            return (x, steps)
    return None


class Clash(unittest.TestCase):
    def both_ways(self, one, other, expected):
        self.assertEqual(clash(*one, *other), expected, (one, other))
        self.assertEqual(clash(*other, *one), expected, (one, other))

    def test_steps_without_a_common_divisor(self):
        self.both_ways((0, 2), (0, 3), 0)
        self.both_ways((1, 2), (0, 3), 3)
        self.both_ways((1, 2), (2, 3), 5)
        self.both_ways((4, 5), (6, 7), 34)

    def test_steps_with_one(self):
        self.both_ways((0, 2), (1, 4), None)
        self.both_ways((0, 2), (2, 4), 2)
        self.both_ways((1, 6), (4, 9), 13)
        self.both_ways((1, 6), (5, 9), None)
        self.both_ways((3, 10), (8, 15), 23)

    def test_alike_steps(self):
        self.both_ways((3, 7), (3, 7), 3)
        self.both_ways((3, 7), (4, 7), None)
        self.both_ways((0, 1), (0, 1), 0)

    def test_step_1_meets_all(self):
        self.both_ways((0, 1), (0, 9), 0)
        self.both_ways((0, 1), (8, 9), 8)

    def test_all_small_ones(self):
        for step, other_step in itertools.product(range(1, 11), repeat=2):
            for rest, other_rest in itertools.product(range(step), range(other_step)):
                days = [day for day in range(100) if day % step == rest and day % other_step == other_rest]
                self.both_ways((rest, step), (other_rest, other_step), days[0] if days else None)
                alike = (rest - other_rest) % math.gcd(step, other_step) == 0
                self.assertEqual(bool(days), alike)

    def test_great_numbers(self):
        self.both_ways((GREAT - 1, GREAT), (GREAT - 2, GREAT - 1), GREAT * (GREAT - 1) - 1)
        self.both_ways((GREAT - 1, GREAT), (0, GREAT), None)
        self.both_ways((0, GREAT), (GREAT - 2, GREAT - 1), (GREAT - 2) * GREAT)
        chance = random.Random(59)
        met = 0
        for turn in range(500):
            shared = 10 ** chance.choice([0, 1, 5, 20])
            steps = [chance.randint(1, GREAT // shared) * shared for one in range(2)]
            day = chance.randint(0, 10 ** 50)
            rests = [day % steps[0], (day + chance.choice([0, 0, 1])) % steps[1]]
            told = clash(rests[0], steps[0], rests[1], steps[1])
            self.both_ways((rests[0], steps[0]), (rests[1], steps[1]), told)
            if (rests[0] - rests[1]) % math.gcd(*steps) != 0:
                self.assertIsNone(told)
            else:
                met += 1
                self.assertEqual([told % steps[0], told % steps[1]], rests)
                self.assertIn(told, range(math.lcm(*steps)))
        self.assertTrue(100 < met < 500)


class IsEven(unittest.TestCase):
    def even(self, town, even):
        self.assertIs(is_even(town, even), True, (town, even))

    def uneven(self, town, even):
        self.assertIs(is_even(town, even), False, (town, even))

    def test_plain_ones(self):
        self.even(([1], [1]), [(0, 0, 1)])
        self.even(([2, 4, 4], [1]), [(0, 0, 2), (0, 1, 4), (0, 3, 4)])
        self.even(([2, 3], [2]), [(0, 1, 2), (1, 2, 3)])
        self.even(([5, 5], [1]), [(0, 0, 2), (0, 1, 2)])

    def test_winders(self):
        for winder in (0, 1, 2):
            self.even(([5], [3]), [(winder, 4, 5)])
        for winder in (-1, -3, 3, 4, 10 ** 40):
            self.uneven(([5], [3]), [(winder, 4, 5)])
        self.uneven(([5], [0]), [(0, 0, 5)])
        self.even(([5], [40]), [(39, 0, 5)])
        self.uneven(([5], [40]), [(40, 0, 5)])

    def test_rests(self):
        for rest in (0, 1, 4):
            self.even(([5], [1]), [(0, rest, 5)])
        for rest in (-1, -5, 5, 6):
            self.uneven(([5], [1]), [(0, rest, 5)])
        self.even(([5], [1]), [(0, 2, 3)])
        self.uneven(([5], [1]), [(0, 3, 3)])

    def test_steps(self):
        for step in (1, 2, 5):
            self.even(([5], [1]), [(0, 0, step)])
        for step in (0, -1, -5, 6, 7):
            self.uneven(([5], [1]), [(0, 0, step)])
        self.uneven(([5], [1]), [(0, -1, -5)])
        self.even(([5, 6], [2]), [(0, 0, 5), (1, 0, 6)])
        self.uneven(([5, 6], [2]), [(0, 0, 6), (1, 0, 5)])

    def test_a_tuple_for_each_clock(self):
        self.uneven(([5], [1]), [])
        self.uneven(([5], [2]), [(0, 0, 5), (1, 0, 5)])
        self.uneven(([5, 5], [2]), [(0, 0, 5)])
        self.even(([5, 5], [2]), [(0, 0, 5), (1, 0, 5)])
        self.uneven(([5, 5], [2]), [(0, 0, 5), (1, 0, 5), (1, 1, 5)])

    def test_two_clocks_of_one_winder(self):
        self.even(([4, 6], [1]), [(0, 0, 4), (0, 1, 6)])
        self.uneven(([4, 6], [1]), [(0, 0, 4), (0, 2, 6)])
        self.even(([4, 6], [2]), [(0, 0, 4), (1, 2, 6)])
        self.uneven(([2, 3], [1]), [(0, 0, 2), (0, 1, 3)])
        self.uneven(([9, 9, 9], [1]), [(0, 0, 9), (0, 1, 9), (0, 0, 3)])
        self.uneven(([9, 9, 9], [1]), [(0, 0, 9), (0, 1, 9), (0, 1, 3)])
        self.even(([9, 9, 9], [1]), [(0, 0, 9), (0, 1, 9), (0, 2, 3)])

    def test_wrong_tuples_beside_others_of_their_winder(self):
        for wrong in ((0, 0, 0), (0, 3, 0), (0, 0, -2), (0, -1, 4), (0, 9, 4), (-1, 0, 4)):
            self.uneven(([5, 5], [1]), [(0, 0, 5), wrong])
            self.uneven(([5, 5], [1]), [wrong, (0, 0, 5)])

    def test_great_numbers(self):
        self.even(([GREAT, GREAT], [1]), [(0, 0, GREAT), (0, GREAT - 1, GREAT)])
        self.uneven(([GREAT, GREAT], [1]), [(0, 0, GREAT), (0, GREAT - 2, GREAT - 1)])
        even = [(0, rest, 10 ** 39) for rest in range(40)]
        self.even(([10 ** 39] * 40, [1]), even)
        self.uneven(([10 ** 39] * 40, [1]), even[:39] + [(0, 7, 10 ** 39)])
        self.uneven(([10 ** 39] * 39 + [10 ** 39 - 1], [1]), even)

    def test_against_the_plain_telling(self):
        chance = random.Random(61)
        seen = {True: 0, False: 0}
        for turn in range(4000):
            spans = [chance.randint(1, 8) for clock in range(chance.randint(1, 3))]
            town = (spans, [chance.randint(0, 3)])
            even = []
            for span in spans + [4] * chance.choice([0] * 12 + [1]):
                step = chance.choice([span] * 8 + [span + 1, span - 1, 0])
                even.append((chance.randint(0, 2), chance.randint(0, max(step - 1, 0)), step))
            expected = keeps_evenly(town, even)
            seen[expected] += 1
            self.assertIs(is_even(town, even), expected, (town, even))
        self.assertGreater(min(seen.values()), 500)

    def test_an_even_plan_day_by_day(self):
        chance = random.Random(67)
        for turn in range(300):
            spans = [chance.randint(2, 6) for clock in range(3)]
            even = [(chance.randint(0, 1), chance.randrange(span), span) for span in spans]
            doubled = False
            for day in range(60):
                winders = [even[clock][0] for clock in row_on(even, day)]
                doubled = doubled or len(set(winders)) < len(winders)
            self.assertIs(is_even((spans, [2]), even), not doubled)


class ChainPlan(unittest.TestCase):
    def hold(self, spans, winders, expected):
        even = chain_plan(spans, winders)
        self.assertIs(even is not None, expected, (spans, winders))
        if even is not None:
            self.assertEqual([step for winder, rest, step in even], spans)
            self.assertEqual({type(part) for part in even}, {tuple})
            self.assertTrue(is_even((spans, [winders]), even), (spans, winders, even))
            self.assertTrue(keeps_evenly((spans, [winders]), even), (spans, winders, even))

    def test_spans_in_any_order(self):
        for spans in itertools.permutations([2, 4, 8, 8]):
            self.hold(list(spans), 1, True)
        for spans in itertools.permutations([1, 3, 3, 6, 12]):
            self.hold(list(spans), 2, True)
            self.hold(list(spans), 1, False)

    def test_alike_spans(self):
        for span in (1, 2, 3, 7):
            self.hold([span] * span, 1, True)
            self.hold([span] * (span + 1), 1, False)
            self.hold([span] * (span + 1), 2, True)
            self.hold([span] * 2 * span, 2, True)

    def test_one_clock(self):
        self.assertEqual(chain_plan([1], 1), [(0, 0, 1)])
        self.hold([GREAT], 1, True)

    def test_no_chain(self):
        self.hold([2, 3], 40, False)
        self.hold([4, 6], 40, False)
        self.hold([2, 4, 6], 40, False)
        self.hold([3, 2, 12], 40, False)
        self.hold([GREAT, GREAT - 1], 40, False)
        self.hold([1, 2, 3], 40, False)

    def test_winders_0(self):
        self.hold([1], 0, False)
        self.hold([GREAT], 0, False)
        self.hold([2, 4, 8], 0, False)

    def test_a_share_just_as_much_as_the_winders_and_a_little_more(self):
        powers = [2 ** power for power in range(1, 40)]
        self.hold(powers, 1, True)
        self.hold(powers + [2 ** 39], 1, True)
        self.hold(powers[:38] + [2 ** 38, 2 ** 130], 1, False)
        self.hold(powers[:37] + [2 ** 37, 2 ** 130], 2, True)
        self.hold([1] * 39 + [10 ** 39], 40, True)
        self.hold([1] * 39 + [10 ** 39], 39, False)
        self.hold([1] * 40, 40, True)
        self.hold([1] * 40, 39, False)
        self.hold([3] * 38 + [6, 6], 13, True)
        self.hold([3] * 38 + [6] * 3, 13, False)

    def test_chains_by_chance(self):
        chance = random.Random(71)
        for turn in range(400):
            spans = chance_chain(chance, chance.randint(1, 40), chance.choice([30, 10 ** 6, GREAT]))
            bound = math.ceil(share_of(spans))
            for winders in {0, bound - 1, bound, bound + 1}:
                self.hold(spans, winders, winders >= bound)

    def test_all_small_chains_are_told_just_where_the_share_allows(self):
        for many in (1, 2, 3, 4):
            for spans in itertools.product([1, 2, 3, 4, 6, 12], repeat=many):
                chain = not any(one % other and other % one for one, other in itertools.combinations(spans, 2))
                for winders in (0, 1, 2):
                    self.hold(list(spans), winders, chain and share_of(spans) <= winders)

    def test_towns_with_a_chain_plan_can_be_kept(self):
        for spans, winders in (([2, 4, 8, 8], 1), ([3, 3, 6, 6], 1), ([1, 2, 2], 2), ([2, 2, 4, 4, 4], 2)):
            self.assertTrue(keeps((spans, [winders]), days_of(chain_plan(spans, winders))))
            self.assertIsNotNone(plan_of((spans, [winders])))


class Rounded(unittest.TestCase):
    def test_at_below_and_above(self):
        self.assertEqual(rounded([5], 5), [5])
        self.assertEqual(rounded([6, 9, 10, 11, 19, 20, 21, 39, 40], 5), [5, 5, 10, 10, 10, 20, 20, 20, 40])
        self.assertEqual(rounded([1, 2, 3, 4, 5, 7, 8, 9], 1), [1, 2, 2, 4, 4, 4, 8, 8])
        self.assertEqual(rounded([3, 5, 6, 11, 12, 13], 3), [3, 3, 6, 6, 12, 12])

    def test_a_span_below_x(self):
        self.assertIsNone(rounded([4], 5))
        self.assertIsNone(rounded([5, 4, 6], 5))
        self.assertIsNone(rounded([1], 2))
        self.assertIsNone(rounded([GREAT, GREAT - 1], GREAT))

    def test_great_numbers(self):
        self.assertEqual(rounded([GREAT], GREAT), [GREAT])
        self.assertEqual(rounded([GREAT], GREAT // 2), [GREAT - 1])
        self.assertEqual(rounded([GREAT], 1), [2 ** 132])
        self.assertEqual(rounded([2 ** 132, 2 ** 132 - 1], 1), [2 ** 132, 2 ** 131])

    def test_by_chance(self):
        chance = random.Random(73)
        for turn in range(300):
            x = chance.randint(1, 10 ** chance.randint(1, 10))
            spans = [chance.randint(x, 10 ** chance.randint(11, 40)) for clock in range(chance.randint(1, 40))]
            steps = rounded(spans, x)
            for span, step in zip(spans, steps, strict=True):
                self.assertTrue(step <= span < 2 * step)
                self.assertEqual(step % x, 0)
                self.assertEqual((step // x).bit_count(), 1)
            for one, other in zip(sorted(steps), sorted(steps)[1:]):
                self.assertEqual(other % one, 0)


class EvenPlan(unittest.TestCase):
    def hold(self, spans, winders):
        told = even_plan((spans, [winders]))
        expected = least_x(spans, winders)
        if expected is None or expected[0] > 200:
            self.assertIsNone(told, (spans, winders))
            return None
        self.assertEqual([step for winder, rest, step in told], expected[1], (spans, winders))
        self.assertTrue(is_even((spans, [winders]), told))
        self.assertTrue(keeps_evenly((spans, [winders]), told))
        return expected[0]

    def test_the_least_x(self):
        self.assertEqual(self.hold([2, 4, 4], 1), 1)
        self.assertEqual(self.hold([3, 3, 3], 1), 3)
        self.assertEqual(self.hold([5] * 5, 1), 5)
        self.assertEqual(self.hold([6] * 6, 1), 3)
        self.assertEqual(self.hold([6, 6, 7, 7, 13, 13, 13, 13], 1), 3)
        self.assertEqual(self.hold([3, 7, 7, 7], 1), 3)

    def test_none_where_none_fits(self):
        self.assertIsNone(self.hold([2, 3], 0))
        self.assertIsNone(self.hold([1, 1], 1))
        self.assertIsNone(self.hold([2, 3, 6], 1))
        self.assertIsNone(self.hold([GREAT], 0))
        self.assertIsNone(self.hold([1, 3, 3, 3], 1))

    def test_no_span_is_below_x(self):
        self.assertIsNone(self.hold([2, 7, 7, 7, 7], 1))
        self.assertEqual(self.hold([7, 7, 7, 7], 1), 1)

    def test_x_up_to_200(self):
        self.assertEqual(self.hold([199] * 199, 1), 199)
        self.assertEqual(self.hold([200] * 200, 1), 25)
        self.assertIsNone(self.hold([201] * 201, 1))
        self.assertIsNone(self.hold([211] * 211, 1))
        self.assertEqual(least_x([211] * 211, 1)[0], 211)

    def test_a_share_of_at_most_half_of_the_winders_fits_by_1(self):
        chance = random.Random(79)
        for turn in range(150):
            most = chance.choice([6, 40, GREAT])
            spans = [chance.randint(1, most) for clock in range(chance.randint(1, 40))]
            winders = math.ceil(2 * share_of(spans))
            if winders <= 40:
                told = even_plan((spans, [winders]))
                self.assertEqual([step for winder, rest, step in told], rounded(spans, 1))
                self.assertTrue(is_even((spans, [winders]), told))
        self.assertEqual(self.hold([2] * 40, 40), 1)
        self.assertEqual(self.hold([3] * 12, 8), 1)

    def test_towns_by_chance(self):
        chance = random.Random(83)
        found = {}
        for turn in range(1500):
            least = chance.choice([1, 3, 5, 9])
            spans = [chance.randint(least, 3 * least) for clock in range(chance.randint(1, 9))]
            x = self.hold(spans, chance.randint(0, 2))
            found[x] = found.get(x, 0) + 1
        self.assertTrue({None, 1, 3, 5} <= set(found), found)

    def test_forty_clocks_with_great_numbers(self):
        chance = random.Random(89)
        for turn in range(10):
            spans = [chance.randint(20, 10 ** chance.randint(2, 40)) for clock in range(40)]
            self.hold(spans, chance.randint(1, 3))


class RowOn(unittest.TestCase):
    EVEN = [(0, 1, 4), (0, 0, 2), (1, 2, 3), (0, 3, 4)]

    def test_each_day(self):
        rows = [row_on(self.EVEN, day) for day in range(12)]
        self.assertEqual(rows[:6], [[1], [0], [1, 2], [3], [1], [0, 2]])
        self.assertEqual(rows[6:], [[1], [3], [1, 2], [0], [1], [2, 3]])

    def test_great_days(self):
        for day in range(12):
            for rounds in (1, 10 ** 30, 8 * 10 ** 48):
                self.assertEqual(row_on(self.EVEN, 12 * rounds + day), row_on(self.EVEN, day))
        self.assertEqual(row_on([(0, 10 ** 40 - 2, GREAT), (0, 0, 1)], 10 ** 10 * GREAT - 1), [0, 1])
        self.assertEqual(row_on([(0, 10 ** 40 - 2, GREAT), (1, 0, 2)], 10 ** 10 * GREAT - 2), [1])

    def test_days_on_which_none_is_wound(self):
        self.assertEqual(row_on([(0, 0, 7)], 10 ** 50 - 1 - (10 ** 50 - 1) % 7 + 1), [])

    def test_clocks_clash_just_on_common_days(self):
        for one, other in itertools.product([(0, 4), (1, 4), (2, 6), (5, 6), (1, 5)], repeat=2):
            even = [(0,) + one, (1,) + other]
            days = [day for day in range(60) if row_on(even, day) == [0, 1]]
            self.assertEqual(clash(*one, *other), days[0] if days else None)

    def test_forty_clocks(self):
        even = [(clock, 0, clock + 1) for clock in range(40)]
        self.assertEqual(row_on(even, 0), list(range(40)))
        self.assertEqual(row_on(even, 36), [0, 1, 2, 3, 5, 8, 11, 17, 35])


class DaysOf(unittest.TestCase):
    def test_plain_ones(self):
        self.assertEqual(days_of([(0, 0, 1)]), ([], [[0]]))
        self.assertEqual(days_of([(0, 0, 2), (0, 1, 4), (0, 3, 4)]), ([], [[0], [1], [0], [2]]))
        self.assertEqual(days_of([(0, 2, 3)]), ([], [[], [], [0]]))

    def test_the_round_is_the_least_behind_which_all_comes_again(self):
        chance = random.Random(97)
        for turn in range(200):
            steps = [chance.randint(1, 8) for clock in range(chance.randint(1, 4))]
            even = [(clock, chance.randrange(step), step) for clock, step in enumerate(steps)]
            first, again = days_of(even)
            self.assertEqual(first, [])
            self.assertEqual(len(again), math.lcm(*steps))
            self.assertEqual(again, [row_on(even, day) for day in range(len(again))])
            for days in range(1, len(again)):
                self.assertNotEqual(again[days:] + again[:days], again)
            self.assertEqual([row_on(even, day + len(again)) for day in range(99)],
                             [row_on(even, day) for day in range(99)])

    def test_the_days_of_an_even_plan_keep_the_town(self):
        chance = random.Random(101)
        for turn in range(120):
            spans = [chance.randint(1, 60) for clock in range(chance.randint(1, 40))]
            winders = math.ceil(2 * share_of(spans))
            even = even_plan((spans, [winders]))
            self.assertTrue(keeps((spans, [winders]), days_of(even)), spans)
        for turn in range(200):
            spans = [chance.randint(2, 12) for clock in range(chance.randint(1, 4))]
            even = even_plan((spans, [1]))
            if even is not None:
                plan = days_of(even)
                self.assertTrue(keeps((spans, [1]), plan), spans)
                self.assertTrue(slow.keeps_days((spans, [1]), plan, slow.long_enough((spans, [1]), plan)), spans)
                self.assertLessEqual(Fraction(*share(spans)), 1)

    def test_great_rounds(self):
        spans = [12, 59, 7]
        even = [(0, 11, 12), (1, 58, 59), (2, 6, 7)]
        plan = days_of(even)
        self.assertEqual(len(plan[1]), 4956)
        self.assertTrue(is_even((spans, [3]), even))
        self.assertTrue(keeps((spans, [3]), plan))
        self.assertFalse(keeps(([12, 58, 7], [3]), plan))
        self.assertEqual(len(days_of([(0, clock, 60) for clock in range(40)])[1]), 60)

    def test_plans_that_do_not_keep_the_town_are_told_day_by_day_too(self):
        even = [(0, 0, 2), (0, 0, 3)]
        self.assertFalse(is_even(([2, 3], [1]), even))
        self.assertEqual(days_of(even), ([], [[0, 1], [], [0], [1], [0], []]))
        self.assertFalse(keeps(([2, 3], [1]), days_of(even)))


if __name__ == "__main__":
    unittest.main()
