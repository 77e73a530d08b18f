import itertools
import math
import random
import unittest
from fractions import Fraction

from tests import slow
from windround.papers import paper_of
from windround.plans import plan_of
from windround.shares import share, shortage, supply

GREAT = 10 ** 40 - 1


def as_tuple(fraction):
    return (fraction.numerator, fraction.denominator)


def share_of(spans):
    return sum((Fraction(1, span) for span in spans), Fraction(0))


def supply_of(hands):
    return Fraction(sum(hands), len(hands))


def great_numbers(chance, many, least):
    return [chance.randint(least, 10 ** chance.randint(1, 40) - 1) for turn in range(many)]


class Share(unittest.TestCase):
    def test_plain_ones(self):
        self.assertEqual(share([1]), (1, 1))
        self.assertEqual(share([7]), (1, 7))
        self.assertEqual(share([2, 3]), (5, 6))
        self.assertEqual(share([1, 1, 1]), (3, 1))
        self.assertEqual(share([2, 3, 12]), (11, 12))

    def test_in_lowest_terms(self):
        self.assertEqual(share([2, 2]), (1, 1))
        self.assertEqual(share([2, 3, 6]), (1, 1))
        self.assertEqual(share([6, 6]), (1, 3))
        self.assertEqual(share([4, 12]), (1, 3))
        self.assertEqual(share([10, 15]), (1, 6))

    def test_great_numbers(self):
        self.assertEqual(share([GREAT]), (1, GREAT))
        self.assertEqual(share([GREAT] * 40), as_tuple(Fraction(40, GREAT)))
        self.assertEqual(share([GREAT, GREAT - 1]), (2 * GREAT - 1, GREAT * (GREAT - 1)))

    def test_against_fractions(self):
        chance = random.Random(37)
        for turn in range(60):
            spans = great_numbers(chance, chance.randint(1, 40), 1)
            self.hold(share(spans), share_of(spans))
        for turn in range(300):
            spans = [chance.randint(1, 60) for clock in range(chance.randint(1, 12))]
            self.hold(share(spans), share_of(spans))

    def hold(self, told, expected):
        self.assertEqual([type(told)] + [type(part) for part in told], [tuple, int, int])
        self.assertEqual(told, as_tuple(expected))
        self.assertGreaterEqual(told[1], 1)
        self.assertEqual(math.gcd(told[0], told[1]), 1)


class Supply(unittest.TestCase):
    hold = Share.hold

    def test_plain_ones(self):
        self.assertEqual(supply([1]), (1, 1))
        self.assertEqual(supply([5]), (5, 1))
        self.assertEqual(supply([1, 2]), (3, 2))
        self.assertEqual(supply([1, 0, 0]), (1, 3))

    def test_in_lowest_terms(self):
        self.assertEqual(supply([1, 1]), (1, 1))
        self.assertEqual(supply([1, 0, 1, 0]), (1, 2))
        self.assertEqual(supply([4, 5, 6]), (5, 1))

    def test_hands_of_0_alone(self):
        for many in (1, 2, 7, 40):
            self.assertEqual(supply([0] * many), (0, 1))

    def test_great_numbers(self):
        self.assertEqual(supply([GREAT]), (GREAT, 1))
        self.assertEqual(supply([GREAT] * 40), (GREAT, 1))
        self.assertEqual(supply([GREAT, 0]), (GREAT, 2))

    def test_against_fractions(self):
        chance = random.Random(41)
        for turn in range(300):
            hands = great_numbers(chance, chance.randint(1, 40), 0)
            self.hold(supply(hands), supply_of(hands))


class Shortage(unittest.TestCase):
    def hold(self, town):
        """The shortage, worked out anew from the share and the supply as fractions."""
        spans, hands = town
        told = shortage(town)
        if share_of(spans) <= supply_of(hands):
            self.assertIsNone(told, town)
            return
        days = math.lcm(len(hands), *spans)
        self.assertEqual(told, (days, share_of(spans) * days, supply_of(hands) * days))
        self.assertEqual([type(told)] + [type(part) for part in told], [tuple, int, int, int])
        self.assertGreater(told[1], told[2])

    def test_plain_ones(self):
        self.assertEqual(shortage(([2, 2, 3], [1])), (6, 8, 6))
        self.assertEqual(shortage(([1, 1], [1])), (1, 2, 1))
        self.assertEqual(shortage(([2, 3, 4], [1])), (12, 13, 12))
        self.assertEqual(shortage(([1], [1, 0])), (2, 2, 1))

    def test_none_where_the_share_is_just_the_supply(self):
        self.assertIsNone(shortage(([2, 3, 6], [1])))
        self.assertIsNone(shortage(([1], [1])))
        self.assertIsNone(shortage(([2], [1, 0])))
        self.assertIsNone(shortage(([3, 3], [1, 0, 1])))

    def test_none_where_the_share_is_less(self):
        self.assertIsNone(shortage(([2, 3, 12], [1])))
        self.assertIsNone(shortage(([2, 3, 7], [1])))
        self.assertIsNone(shortage(([12], [1])))

    def test_a_little_more(self):
        self.assertEqual(shortage(([2, 3, 5], [1])), (30, 31, 30))
        self.assertEqual(shortage(([2, 2, GREAT], [1])), (2 * GREAT, 2 * GREAT + 2, 2 * GREAT))

    def test_the_least_number_of_days(self):
        for spans in itertools.product(range(1, 7), repeat=2):
            for many in range(1, 6):
                told = shortage((list(spans), [0] * many))
                divided = [day for day in range(1, 200) if not any(day % part for part in spans + (many,))]
                self.assertEqual(told[0], divided[0])

    def test_the_length_of_hands_divides_the_days(self):
        self.assertEqual(shortage(([2, 2], [1, 0, 0])), (6, 6, 2))
        self.assertEqual(shortage(([1], [0, 0, 1, 0, 1])), (5, 5, 2))
        self.assertEqual(shortage(([2], [0, 1, 0, 0])), (4, 2, 1))

    def test_hands_of_0_alone(self):
        self.assertEqual(shortage(([3], [0])), (3, 1, 0))
        self.assertEqual(shortage(([GREAT], [0] * 40)), (40 * GREAT // math.gcd(40, GREAT), 40, 0))

    def test_great_numbers(self):
        self.assertIsNone(shortage(([GREAT] * 40, [1])))
        self.assertIsNone(shortage(([1] * 40, [GREAT] * 40)))
        self.assertEqual(shortage(([1] * 40, [39])), (1, 40, 39))
        self.assertIsNone(shortage(([1] * 40, [40])))
        chance = random.Random(43)
        for turn in range(40):
            spans = great_numbers(chance, chance.randint(1, 40), 1)
            hands = [chance.choice([0, 0, 0, 0, 0, 0, 1, 2]) for day in range(chance.randint(1, 40))]
            self.hold((spans, hands))
            self.hold((spans, great_numbers(chance, 40, 0)))

    def test_towns_by_chance(self):
        chance = random.Random(47)
        for turn in range(400):
            spans = [chance.randint(1, 12) for clock in range(chance.randint(1, 6))]
            self.hold((spans, [chance.randint(0, 3) for day in range(chance.randint(1, 6))]))

    def test_where_there_is_a_shortage_no_plan_is_told_and_a_paper_is(self):
        short = 0
        for town in slow.small_towns() + slow.chance_towns(random.Random(53), 60, 400):
            self.hold(town)
            if shortage(town) is not None:
                short += 1
                self.assertIsNone(plan_of(town), town)
                self.assertIsNotNone(paper_of(town), town)
        self.assertGreater(short, 100)

    def test_without_a_shortage_there_may_still_be_no_plan(self):
        self.assertIsNone(shortage(([2, 3, 12], [1])))
        self.assertIsNone(plan_of(([2, 3, 12], [1])))


if __name__ == "__main__":
    unittest.main()
