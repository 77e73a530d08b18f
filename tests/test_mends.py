import random
import unittest

from tests import slow
from windround.errors import NoDay, NoHands, NoText, NoTown, Taken, TownError
from windround.mends import least_mend, room_beside
from windround.order import no_tighter
from windround.papers import paper_of, shuts_out
from windround.plans import keeps, plan_of


def can_be_kept(town):
    return (0, tuple(town[0])) in slow.kept_standings(town)


class LeastMend(unittest.TestCase):
    def told(self, town):
        """What is told, held against everything that the document says of it."""
        size, spans, plan, papers = least_mend(town)
        hands = town[1]
        mends = slow.mends(town[0], size)
        kept = [mend for mend in mends if plan_of((mend, hands)) is not None]
        self.assertEqual(spans, kept[0], town)
        self.assertEqual(sum(spans) - sum(town[0]), size)
        self.assertTrue(no_tighter((spans, hands), town))
        self.assertTrue(keeps((spans, hands), plan))
        self.assertTrue(slow.keeps_days((spans, hands), plan, slow.long_enough((spans, hands), plan)))
        lesser = slow.mends(town[0], size - 1) if size else []
        self.assertEqual([less for less, paper in papers], lesser, town)
        for less, paper in papers:
            self.assertTrue(shuts_out((less, hands), paper), (town, less))
        return (size, spans)

    def test_size_nought_where_the_town_can_be_kept(self):
        for town in (([1], [1]), ([3], [1, 0, 0]), ([2, 4, 4], [1]), ([2, 3], [1]), ([12, 12, 12], [1])):
            size, spans, plan, papers = least_mend(town)
            self.assertEqual((size, spans, papers), (0, town[0], []))
            self.assertTrue(keeps(town, plan))
            self.assertEqual(self.told(town), (0, town[0]))

    def test_plain_towns(self):
        self.assertEqual(self.told(([1], [0, 1])), (1, [2]))
        self.assertEqual(self.told(([1, 1], [1])), (2, [2, 2]))
        self.assertEqual(self.told(([2, 2, 2], [1])), (3, [3, 3, 3]))
        self.assertEqual(self.told(([1, 2, 2], [2])), (0, [1, 2, 2]))
        self.assertEqual(self.told(([2, 2, 3], [1])), (2, [3, 3, 3]))
        self.assertEqual(self.told(([4, 4, 4, 5, 5], [1])), (3, [5, 5, 5, 5, 5]))

    def test_the_whole_of_what_is_told(self):
        size, spans, plan, papers = least_mend(([1, 1], [1]))
        self.assertEqual((size, spans), (2, [2, 2]))
        self.assertTrue(keeps(([2, 2], [1]), plan))
        self.assertEqual([less for less, paper in papers], [[1, 2], [2, 1]])
        self.assertEqual(papers, [(less, paper_of((less, [1]))) for less in ([1, 2], [2, 1])])

    def test_the_first_in_the_order_of_lists(self):
        self.assertEqual(self.told(([1, 1, 1], [2])), (2, [1, 2, 2]))
        self.assertEqual(self.told(([3, 1, 1], [1])), (4, [3, 3, 3]))
        self.assertEqual(self.told(([2, 3, 4], [1])), (1, [2, 4, 4]))
        self.assertEqual(self.told(([4, 3, 2], [1])), (1, [4, 3, 3]))

    def test_numbers_are_not_held_against_each_other_as_texts(self):
        self.assertEqual(self.told(([9, 9], [0, 0, 0, 0, 1])), (2, [10, 10]))
        self.assertEqual([less for less, paper in least_mend(([9, 9], [0, 0, 0, 0, 1]))[3]], [[9, 10], [10, 9]])

    def test_sizes_up_to_six(self):
        self.assertEqual(self.told(([1], [0, 0, 0, 0, 0, 1]))[0], 5)
        self.assertEqual(self.told(([5, 1], [0, 0, 0, 0, 0, 2])), (6, [6, 6]))
        self.assertEqual(self.told(([2, 2, 2, 2, 2, 2], [2])), (6, [3, 3, 3, 3, 3, 3]))
        self.assertEqual(self.told(([3, 5, 3, 11, 3], [1]))[0], 6)
        self.assertEqual(self.told(([2, 2, 2, 5, 5, 10], [1, 2]))[0], 4)
        sizes = set()
        for town in slow.small_towns():
            if sum(town[1]) > 0 and any(plan_of((mend, town[1])) for mend in slow.mends(town[0], 6)):
                sizes.add(self.told(town)[0])
        self.assertEqual(sizes, {0, 1, 2, 3, 4, 5, 6})

    def test_against_a_plain_search(self):
        chance = random.Random(1)
        sizes = set()
        for town in slow.chance_towns(chance, 200, 60):
            if sum(town[1]) == 0:
                continue
            for size in range(4):
                kept = [mend for mend in slow.mends(town[0], size) if can_be_kept((mend, town[1]))]
                if kept:
                    self.assertEqual(self.told(town), (size, kept[0]))
                    sizes.add(size)
                    break
        self.assertEqual(sizes, {0, 1, 2, 3})

    def test_papers_of_great_towns(self):
        for town in (([3, 3, 3, 4, 4, 4], [1, 2]), ([3, 3, 4, 9], [1, 0, 1, 1, 1, 0, 1]), ([4, 4, 4, 5, 5], [1])):
            size, spans, plan, papers = least_mend(town)
            for less, paper in papers[::7]:
                self.assertTrue(slow.shuts((less, town[1]), paper))
                self.assertEqual(len({entry[:2] for entry in paper}), len(paper))

    def test_no_hands(self):
        for town in (([1], [0]), ([12, 12], [0, 0, 0]), ([3, 3, 3, 4, 4, 4], [0]), ([12], [0] * 6)):
            for refusal in (NoHands, TownError, ValueError):
                with self.assertRaises(refusal):
                    least_mend(town)
            try:
                least_mend(town)
            except TownError as error:
                self.assertIs(type(error), NoHands)
        for other in (NoDay, NoText, NoTown, Taken):
            self.assertFalse(issubclass(NoHands, other) or issubclass(other, NoHands))

    def test_hands_on_a_single_day(self):
        self.assertEqual(self.told(([1], [0, 0, 1])), (2, [3]))
        self.assertEqual(self.told(([3], [0, 0, 0, 1, 0, 0])), (3, [6]))


class RoomBeside(unittest.TestCase):
    def test_plain_towns(self):
        self.assertEqual(room_beside(([2], [1]), 12), 2)
        self.assertEqual(room_beside(([2], [2]), 12), 1)
        self.assertEqual(room_beside(([2, 4], [1]), 12), 4)
        self.assertEqual(room_beside(([3, 3], [1]), 12), 3)
        self.assertEqual(room_beside(([4], [1, 0]), 12), 4)
        self.assertIsNone(room_beside(([3], [1, 0]), 12))

    def test_no_room(self):
        self.assertIsNone(room_beside(([1], [1]), 12))
        self.assertIsNone(room_beside(([2, 2], [1]), 12))
        self.assertIsNone(room_beside(([2, 3], [1]), 12))
        self.assertIsNone(room_beside(([3], [1, 0, 0]), 12))

    def test_a_bound_of_nought(self):
        for town in (([2], [2]), ([1], [1]), ([12], [6]), ([1], [0])):
            self.assertIsNone(room_beside(town, 0))

    def test_a_bound_just_reached_and_one_too_small(self):
        for town, span in ((([2], [1]), 2), (([2], [2]), 1), (([2, 4], [1]), 4), (([1, 2, 7, 8, 12], [2]), 12)):
            self.assertEqual(room_beside(town, span), span)
            self.assertIsNone(room_beside(town, span - 1))
            for most in range(span, 13):
                self.assertEqual(room_beside(town, most), span)

    def test_a_town_that_cannot_be_kept_itself(self):
        for town in (([1], [0]), ([2, 2, 2], [1]), ([2, 3, 12], [1]), ([1], [1, 0])):
            for most in (0, 1, 12):
                self.assertIsNone(room_beside(town, most))

    def test_against_a_plain_search(self):
        for town in slow.small_towns()[::2] + slow.chance_towns(random.Random(2), 60, 60):
            spans, hands = town
            fitting = [span for span in range(1, 7) if can_be_kept((spans + [span], hands))]
            self.assertEqual(room_beside(town, 6), min(fitting, default=None), town)

    def test_great_towns(self):
        for town in slow.GREATEST:
            span = room_beside(town, 12)
            spans, hands = town
            if span is None:
                self.assertIsNone(plan_of((spans + [12], hands)))
            else:
                self.assertTrue(keeps((spans + [span], hands), plan_of((spans + [span], hands))))
                if span > 1:
                    less = (spans + [span - 1], hands)
                    self.assertTrue(shuts_out(less, paper_of(less)))


if __name__ == "__main__":
    unittest.main()
