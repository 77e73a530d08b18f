import random
import unittest

from tests import slow
from windround.days import begun, choices, is_stuck, wound
from windround.order import no_worse
from windround.papers import paper_of, shuts_out
from windround.plans import keeps, plan_of

THREE = ([2, 2, 2], [1])
THREE_PAPER = [(0, (2, 2, 2), 1), (0, (2, 1, 1), 0), (0, (1, 2, 1), 0), (0, (1, 1, 2), 0)]
TWO_DAYS = ([2], [0, 0])
TWO_DAYS_PAPER = [(0, (2,), 1), (1, (1,), 0)]


def papers_beside(chance, town, paper):
    """Papers that differ in one place from a paper, some of them no papers of the town any more."""
    place = chance.randrange(len(paper))
    day, lefts, rank = paper[place]
    clock = chance.randrange(len(lefts))
    entries = [
        (day, lefts, rank - 1),
        (day, lefts, rank + 1),
        (day, lefts, 0),
        (day + 1, lefts, rank),
        (day - 1, lefts, rank),
    ]
    for left in (lefts[clock] - 1, lefts[clock] + 1, town[0][clock]):
        entries.append((day, lefts[:clock] + (left,) + lefts[clock + 1:], rank))
    beside = [paper[:place] + paper[place + 1:]]
    for entry in entries:
        beside.append(paper[:place] + [entry] + paper[place + 1:])
        beside.append(paper + [entry])
    return beside


class ShutsOut(unittest.TestCase):
    def shut(self, town, paper):
        self.assertIs(shuts_out(town, paper), True, (town, paper))
        self.assertTrue(slow.shuts(town, paper))

    def not_shut(self, town, paper):
        self.assertIs(shuts_out(town, paper), False, (town, paper))
        self.assertFalse(slow.shuts(town, paper))

    def test_an_empty_paper(self):
        for town in (([1], [0]), ([1], [1]), THREE, TWO_DAYS):
            self.not_shut(town, [])

    def test_a_beginning_that_is_stuck(self):
        self.shut(([1, 1], [1]), [(0, (1, 1), 0)])
        self.shut(([1, 1], [1]), [(0, (1, 1), 17)])
        self.shut(([1], [0, 1]), [(0, (1,), 0)])
        self.not_shut(([1], [1, 0]), [(0, (1,), 0)])
        self.not_shut(([1, 1], [2]), [(0, (1, 1), 0)])

    def test_plain_papers(self):
        self.shut(THREE, THREE_PAPER)
        self.shut(THREE, THREE_PAPER[::-1])
        self.shut(TWO_DAYS, TWO_DAYS_PAPER)
        self.shut(([1], [1, 0]), [(0, (1,), 1), (1, (1,), 0)])

    def test_the_beginning_must_be_reached(self):
        self.not_shut(THREE, THREE_PAPER[1:])
        self.not_shut(THREE, [(0, (2, 2, 1), 1)] + THREE_PAPER[1:])
        self.not_shut(TWO_DAYS, TWO_DAYS_PAPER[1:])
        self.not_shut(([2, 2], [0, 0]), [(1, (2, 2), 1), (0, (1, 1), 0)])

    def test_each_choice_must_be_met(self):
        for place in (1, 2, 3):
            self.not_shut(THREE, THREE_PAPER[:place] + THREE_PAPER[place + 1:])
        self.not_shut(TWO_DAYS, TWO_DAYS_PAPER[:1])

    def test_one_that_is_worse_does_not_meet_a_choice(self):
        self.not_shut(THREE, THREE_PAPER[:3] + [(0, (1, 1, 1), 0)])
        self.not_shut(TWO_DAYS, [(0, (2,), 1), (0, (1,), 0)])

    def test_one_that_is_better_meets_a_choice(self):
        town = ([3, 3], [0])
        self.shut(town, [(0, (3, 3), 2), (0, (2, 3), 1), (0, (1, 3), 0)])
        self.shut(town, [(0, (3, 3), 2), (0, (3, 2), 1), (0, (2, 1), 0)])
        self.not_shut(town, [(0, (3, 3), 2), (0, (3, 1), 1), (0, (1, 3), 0)])

    def test_a_standing_with_rank_0_is_stuck(self):
        self.not_shut(THREE, [(0, (2, 2, 2), 0)] + THREE_PAPER[1:])
        self.not_shut(TWO_DAYS, [(0, (2,), 0), (1, (1,), 0)])
        self.not_shut(THREE, THREE_PAPER + [(0, (2, 2, 1), 0)])

    def test_a_rank_that_is_not_less(self):
        self.not_shut(TWO_DAYS, [(0, (2,), 1), (1, (1,), 1)])
        self.not_shut(TWO_DAYS, [(0, (2,), 1), (1, (1,), 2)])
        self.shut(TWO_DAYS, [(0, (2,), 3), (1, (1,), 2)])
        self.not_shut(THREE, THREE_PAPER[:3] + [(0, (1, 1, 2), 1)])
        self.shut(([2], [0]), [(0, (2,), 10 ** 30), (0, (1,), 10 ** 30 - 1)])

    def test_a_way_round_is_no_paper(self):
        self.not_shut(([2, 2], [1]), [(0, (2, 2), 2), (0, (2, 1), 1), (0, (1, 2), 1), (0, (1, 1), 0)])
        self.not_shut(([1], [1]), [(0, (1,), 0)])
        self.not_shut(([1], [1]), [(0, (1,), 5)])

    def test_a_rank_below_0(self):
        self.not_shut(([1], [0]), [(0, (1,), -1)])
        self.not_shut(THREE, THREE_PAPER + [(0, (1, 1, 1), -1)])
        self.not_shut(THREE, [(0, (2, 2, 2), 0)] + [(0, lefts, -1) for day, lefts, rank in THREE_PAPER[1:]])

    def test_days_out_of_their_bounds(self):
        self.shut(TWO_DAYS, TWO_DAYS_PAPER + [(0, (1,), 0)])
        for day in (-1, -2, 2, 3, 10 ** 40, -10 ** 40):
            self.not_shut(TWO_DAYS, TWO_DAYS_PAPER + [(day, (1,), 0)])
        self.not_shut(TWO_DAYS, [(0, (2,), 1), (-1, (1,), 0)])

    def test_lefts_out_of_their_bounds(self):
        for left in (0, -1, 3, 4, 10 ** 40, -10 ** 40):
            self.not_shut(TWO_DAYS, TWO_DAYS_PAPER + [(0, (left,), 0)])
            self.not_shut(TWO_DAYS, TWO_DAYS_PAPER + [(1, (left,), 9)])
            self.not_shut(THREE, THREE_PAPER + [(0, (1, 1, left), 0)])
        self.not_shut(([1], [0]), [(0, (2,), 1), (0, (1,), 0)])
        self.not_shut(([1], [0]), [(0, (0,), 0), (0, (1,), 0)])

    def test_each_clock_has_its_own_bound(self):
        self.shut(([2, 1], [0]), [(0, (2, 1), 0)])
        self.not_shut(([2, 1], [0]), [(0, (2, 1), 0), (0, (1, 2), 0)])

    def test_the_same_standing_twice(self):
        self.shut(THREE, THREE_PAPER + THREE_PAPER)
        self.shut(THREE, THREE_PAPER + [(0, (2, 2, 2), 5)])
        self.shut(THREE, [(0, (2, 2, 2), 5)] + THREE_PAPER)
        self.not_shut(THREE, THREE_PAPER + [(0, (2, 2, 2), 0)])
        self.not_shut(THREE, [(0, (2, 2, 2), 0)] + THREE_PAPER)
        self.shut(THREE, THREE_PAPER + [(0, (2, 1, 1), 7)])

    def test_all_standings_of_two_small_towns(self):
        for town in (([3, 3], [0, 1]), ([2, 3, 3], [1])):
            ranks = slow.lost_ranks(town)
            paper = [(day, lefts, ranks[day, lefts]) for day, lefts in ranks]
            self.assertIn(begun(town), ranks)
            self.shut(town, paper)
            kept = [one for one in slow.all_standings(town) if one not in ranks]
            for day, lefts in kept:
                for rank in (0, 1, 100):
                    self.not_shut(town, paper + [(day, lefts, rank)])

    def test_papers_beside_a_good_one(self):
        chance = random.Random(19)
        towns = slow.small_towns() + slow.chance_towns(chance, 40, 150)
        seen = {True: 0, False: 0}
        for town in towns:
            paper = paper_of(town)
            if paper is not None and len(paper) <= 40:
                for other in papers_beside(chance, town, paper):
                    expected = slow.shuts(town, other)
                    seen[expected] += 1
                    self.assertIs(shuts_out(town, other), expected, (town, other))
        self.assertGreater(min(seen.values()), 400)

    def test_no_paper_shuts_out_a_town_that_can_be_kept(self):
        chance = random.Random(23)
        for town in slow.small_towns():
            if plan_of(town) is not None:
                standings = slow.all_standings(town)
                for turn in range(5):
                    paper = [(day, lefts, chance.randint(0, 6)) for day, lefts in standings if chance.random() < 0.8]
                    self.not_shut(town, paper)

    def test_two_thousand_tuples(self):
        town = ([10, 10, 10], [0, 0])
        paper = [(day, lefts, min(lefts) - 1) for day, lefts in slow.all_standings(town)]
        self.assertEqual(len(paper), 2000)
        self.assertIs(shuts_out(town, paper), True)
        self.assertIs(shuts_out(town, paper[::-1]), True)
        for place in (0, 777, 1999):
            day, lefts, rank = paper[place]
            self.assertIs(shuts_out(town, paper[:place] + [(day, lefts, rank - 1)] + paper[place + 1:]), False)
        self.assertIs(shuts_out(town, paper[:-1]), True)
        self.assertIs(shuts_out(town, paper[:999] + paper[1000:]), False)

    def test_two_thousand_times_the_same(self):
        self.assertIs(shuts_out(THREE, THREE_PAPER * 500), True)
        self.assertIs(shuts_out(THREE, THREE_PAPER * 499 + THREE_PAPER[1:] + [(0, (2, 2, 2), 0)]), False)
        six = ([3, 3, 3, 4, 4, 4], [6])
        self.assertIs(shuts_out(six, [(0, (3, 3, 3, 4, 4, 4), rank) for rank in range(2000)]), False)


class PaperOf(unittest.TestCase):
    def hold(self, town):
        """Just one of plan and paper is told; the paper is let by, and its form is as told."""
        plan, paper = plan_of(town), paper_of(town)
        self.assertEqual([plan, paper].count(None), 1, town)
        if paper is None:
            self.assertTrue(keeps(town, plan), town)
            return
        self.assertIs(type(paper), list)
        self.assertIs(shuts_out(town, paper), True, town)
        self.assertEqual(len({(day, lefts) for day, lefts, rank in paper}), len(paper), town)
        for entry in paper:
            self.assertEqual([type(entry), [type(part) for part in entry]], [tuple, [int, tuple, int]], town)
            self.assertEqual({type(left) for left in entry[1]}, {int}, town)
            self.assertGreaterEqual(entry[2], 0, town)
            self.assertIn(entry[0], range(len(town[1])), town)
            self.assertEqual(len(entry[1]), len(town[0]), town)

    def test_towns_that_can_be_kept_have_none(self):
        for town in (([1], [1]), ([2, 2], [1]), ([2, 4, 4], [1]), ([3, 4, 5, 8], [1]), ([5], [0, 0, 0, 0, 1])):
            self.assertIsNone(paper_of(town), town)
            self.hold(town)

    def test_towns_that_cannot_have_one(self):
        for town in (
            ([1], [0]),
            ([12], [0]),
            ([1], [1, 0]),
            ([1, 1], [1]),
            ([4], [0, 0, 0, 0, 1]),
            ([2, 3, 12], [1]),
            ([3, 3, 4, 12], [1]),
            ([1, 1, 1, 1, 1, 1], [6, 5]),
        ):
            self.assertIsNotNone(paper_of(town), town)
            self.hold(town)
            self.assertTrue(slow.shuts(town, paper_of(town)), town)

    def test_a_beginning_that_is_stuck(self):
        self.assertEqual(paper_of(([1, 1], [1, 2])), [(0, (1, 1), 0)])

    def test_rank_0_is_stuck_and_each_choice_leads_down(self):
        for town in (([2, 3, 12], [1]), ([3, 3, 3], [1, 1, 0]), ([2, 2, 2, 12], [2, 1])):
            paper = paper_of(town)
            self.assertIn(begun(town), [entry[:2] for entry in paper])
            for entry in paper:
                if entry[2] == 0:
                    self.assertTrue(is_stuck(town, entry[:2]))
                for row in choices(town, entry[:2]):
                    ahead = wound(town, entry[:2], row)
                    self.assertTrue(any(no_worse(other[:2], ahead) and other[2] < entry[2] for other in paper))

    def test_all_small_towns(self):
        for town in slow.small_towns():
            self.hold(town)
            self.assertEqual(paper_of(town) is None, begun(town) in slow.kept_standings(town), town)
            if paper_of(town) is not None:
                self.assertTrue(slow.shuts(town, paper_of(town)), town)

    def test_towns_by_chance(self):
        for town in slow.chance_towns(random.Random(29), 150, 400):
            self.hold(town)

    def test_the_greatest_towns(self):
        towns = slow.GREATEST + slow.chance_towns(random.Random(31), 60, 2000)
        for town in towns:
            self.hold(town)
        self.assertGreater(max(len(paper_of(town) or []) for town in towns), 100)


if __name__ == "__main__":
    unittest.main()
