"""The promise over the whole program: a line read, put on a desk, and all that is told of it."""

import random
import unittest
from fractions import Fraction

from tests import slow
from windround.costs import cost_of, least_cost, prices_hold
from windround.days import begun, gone
from windround.desk import Desk
from windround.papers import shuts_out
from windround.plans import can_keep, keeps, plan_of
from windround.shares import shortage
from windround.texts import read_plan, read_town, show_plan, show_town

LINES = ["2 4 4 | 1", "2 3 12 | 1", "1 | 0 1", "2 2 2 | 1", "3 5 7 | 1 0 1 1 1", "4 4 4 5 5 | 1", "12 12 12 | 1", "3 3 | 0 0"]


class Whole(unittest.TestCase):
    def keeping(self, town, plan):
        """A plan that is written, read and gone with, day by day."""
        read = read_plan(show_plan(plan))
        self.assertEqual(read, plan)
        self.assertTrue(keeps(town, read))
        gone(town, begun(town), read[0] + read[1] * 3)
        self.assertTrue(slow.keeps_days(town, read, slow.long_enough(town, read)))

    def shut(self, town, paper):
        self.assertTrue(shuts_out(town, paper))
        self.assertTrue(slow.shuts(town, paper))

    def costed(self, town, plan):
        costs = [3 + clock * clock for clock in range(len(town[0]))]
        told = least_cost(town, costs)
        self.assertEqual(told is None, plan is None)
        if told is None:
            self.assertTrue(prices_hold(town, costs, (1, 1), []))
            return
        fraction, least, prices = told
        self.keeping(town, least)
        self.assertEqual(cost_of(least, costs), fraction)
        self.assertTrue(prices_hold(town, costs, fraction, prices))
        self.assertLessEqual(Fraction(*fraction), Fraction(*cost_of(plan, costs)))

    def mended(self, town, plan, mend):
        size, spans, mended, papers = mend
        self.assertEqual(size == 0, plan is not None)
        self.keeping((spans, town[1]), mended)
        self.assertEqual([less for less, paper in papers], slow.mends(town[0], size - 1) if size else [])
        for less, paper in papers:
            self.assertTrue(shuts_out((less, town[1]), paper))

    def whole(self, line, with_mend):
        town = read_town(line)
        self.assertEqual(show_town(town), line)
        desk = Desk()
        desk.put("town", town)
        self.assertEqual(desk.town("town"), town)
        plan, paper = desk.plan("town"), desk.paper("town")
        self.assertNotEqual(plan is None, paper is None, line)
        self.assertEqual(plan is not None, can_keep(town, begun(town)))
        if plan is not None:
            self.keeping(town, plan)
            self.assertIsNone(shortage(town))
        else:
            self.shut(town, paper)
        self.costed(town, plan)
        if with_mend:
            self.mended(town, plan, desk.mend("town"))
        return plan is not None

    def test_plain_lines(self):
        for line in LINES:
            self.whole(line, sum(read_town(line)[1]) > 0)

    def test_small_towns(self):
        kept = [self.whole(show_town(town), sum(town[1]) * 2 > len(town[0])) for town in slow.small_towns()[::5]]
        self.assertEqual(set(kept), {True, False})

    def test_chance_towns(self):
        for town in slow.chance_towns(random.Random(1), 60, 200):
            near = sum(town[1]) > 0 and any(plan_of((mend, town[1])) for mend in slow.mends(town[0], 3))
            self.whole(show_town(town), near)


if __name__ == "__main__":
    unittest.main()
