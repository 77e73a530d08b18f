import random
import unittest

from tests import slow
from windround.days import begun, choices, gone, is_stuck, wound
from windround.errors import NoDay, TownError


class Begun(unittest.TestCase):
    def test_the_beginning_is_day_0_with_all_spans(self):
        self.assertEqual(begun(([3, 5, 1], [1, 2])), (0, (3, 5, 1)))
        self.assertEqual(begun(([1], [0])), (0, (1,)))
        self.assertEqual(begun(([12, 12, 12], [6])), (0, (12, 12, 12)))

    def test_it_is_a_tuple_with_a_tuple(self):
        standing = begun(([3, 5], [1]))
        self.assertIs(type(standing), tuple)
        self.assertIs(type(standing[1]), tuple)


class Choices(unittest.TestCase):
    def test_fewer_clocks_ahead_of_more_then_by_the_order_of_lists(self):
        self.assertEqual(
            choices(([3, 3, 3], [3]), (0, (3, 2, 3))),
            [[], [0], [1], [2], [0, 1], [0, 2], [1, 2], [0, 1, 2]],
        )

    def test_no_more_clocks_than_hands(self):
        self.assertEqual(choices(([3, 3, 3], [1]), (0, (3, 2, 3))), [[], [0], [1], [2]])
        self.assertEqual(choices(([3, 3], [6]), (0, (3, 2))), [[], [0], [1], [0, 1]])

    def test_due_clocks_are_in_every_row(self):
        self.assertEqual(choices(([3, 3, 3], [2]), (0, (3, 1, 2))), [[1], [0, 1], [1, 2]])
        self.assertEqual(choices(([3, 3, 3], [3]), (0, (1, 3, 1))), [[0, 2], [0, 1, 2]])

    def test_a_day_without_hands(self):
        self.assertEqual(choices(([3, 3], [0]), (0, (3, 2))), [[]])
        self.assertEqual(choices(([3, 3], [0]), (0, (1, 2))), [])

    def test_clocks_of_span_1_are_always_due(self):
        self.assertEqual(choices(([1], [1]), (0, (1,))), [[0]])
        self.assertEqual(choices(([1, 4, 1], [3]), (0, (1, 4, 1))), [[0, 2], [0, 1, 2]])
        self.assertEqual(choices(([1, 1], [1]), (0, (1, 1))), [])

    def test_each_day_has_its_own_hands(self):
        town = ([4, 4], [0, 2, 1])
        self.assertEqual(choices(town, (0, (4, 4))), [[]])
        self.assertEqual(choices(town, (1, (4, 4))), [[], [0], [1], [0, 1]])
        self.assertEqual(choices(town, (2, (4, 4))), [[], [0], [1]])

    def test_against_the_slow_telling(self):
        towns = slow.small_towns() + slow.chance_towns(random.Random(7), 25, 600)
        for town in towns:
            rows = slow.all_rows(town)
            for standing in slow.all_standings(town):
                expected = [row for row in rows if slow.allowed(town, standing, row)]
                self.assertEqual(choices(town, standing), expected, (town, standing))
                self.assertIs(is_stuck(town, standing), not expected, (town, standing))


class IsStuck(unittest.TestCase):
    def test_more_due_than_hands(self):
        self.assertIs(is_stuck(([2, 2], [1]), (0, (1, 1))), True)
        self.assertIs(is_stuck(([2, 2], [2]), (0, (1, 1))), False)
        self.assertIs(is_stuck(([2, 2], [1]), (0, (1, 2))), False)

    def test_a_day_without_hands(self):
        self.assertIs(is_stuck(([2, 2], [0]), (0, (2, 2))), False)
        self.assertIs(is_stuck(([2, 2], [0]), (0, (2, 1))), True)

    def test_each_day_has_its_own_hands(self):
        self.assertIs(is_stuck(([2, 2], [1, 2]), (0, (1, 1))), True)
        self.assertIs(is_stuck(([2, 2], [1, 2]), (1, (1, 1))), False)


class Wound(unittest.TestCase):
    def refuses(self, town, standing, row):
        with self.assertRaises(NoDay, msg=(town, standing, row)) as caught:
            wound(town, standing, row)
        self.assertEqual(caught.exception.day, 0)
        self.assertIsInstance(caught.exception, TownError)

    def test_wound_clocks_get_their_span_the_others_one_less(self):
        self.assertEqual(wound(([3, 5, 7], [2]), (0, (2, 4, 6)), [0, 2]), (0, (3, 3, 7)))
        self.assertEqual(wound(([3, 5, 7], [2]), (0, (2, 4, 6)), []), (0, (1, 3, 5)))

    def test_behind_the_last_day_is_the_first(self):
        town = ([4], [1, 0, 2])
        self.assertEqual(wound(town, (0, (4,)), []), (1, (3,)))
        self.assertEqual(wound(town, (1, (3,)), []), (2, (2,)))
        self.assertEqual(wound(town, (2, (2,)), [0]), (0, (4,)))

    def test_a_clock_of_span_1(self):
        self.assertEqual(wound(([1], [1]), (0, (1,)), [0]), (0, (1,)))
        self.refuses(([1], [1]), (0, (1,)), [])

    def test_refuses_rows_that_are_not_rising(self):
        self.refuses(([3, 3, 3], [3]), (0, (3, 3, 3)), [1, 0])
        self.refuses(([3, 3, 3], [3]), (0, (3, 3, 3)), [0, 2, 1])

    def test_refuses_a_clock_twice(self):
        self.refuses(([3, 3, 3], [3]), (0, (3, 3, 3)), [1, 1])
        self.refuses(([3, 3, 3], [3]), (0, (3, 3, 3)), [0, 2, 2])

    def test_refuses_clocks_that_are_none(self):
        self.refuses(([3, 3, 3], [3]), (0, (3, 3, 3)), [-1])
        self.refuses(([3, 3, 3], [3]), (0, (3, 3, 3)), [-1, 0])
        self.refuses(([3, 3, 3], [3]), (0, (3, 3, 3)), [3])
        self.refuses(([3, 3, 3], [3]), (0, (3, 3, 3)), [0, 20])

    def test_refuses_a_row_without_a_due_clock(self):
        self.refuses(([3, 3, 3], [3]), (0, (3, 1, 3)), [])
        self.refuses(([3, 3, 3], [3]), (0, (3, 1, 3)), [0, 2])
        self.refuses(([3, 3, 3], [3]), (0, (1, 1, 3)), [0])

    def test_refuses_more_clocks_than_hands(self):
        self.refuses(([3, 3, 3], [1]), (0, (3, 3, 3)), [0, 1])
        self.refuses(([3, 3, 3], [0]), (0, (3, 3, 3)), [2])
        self.refuses(([3, 3], [2, 1]), (1, (3, 3)), [0, 1])
        self.refuses(([3, 3], [6]), (0, (3, 3)), [0, 1, 2, 3, 4, 5, 6, 7])

    def test_just_the_choices_may_be_wound(self):
        for town in slow.small_towns():
            rows = slow.all_rows(town)
            for standing in slow.all_standings(town):
                for row in rows:
                    if slow.allowed(town, standing, row):
                        self.assertEqual(wound(town, standing, row), slow.after(town, standing, row))
                    else:
                        self.refuses(town, standing, row)


class Gone(unittest.TestCase):
    def refuses(self, day, town, standing, rows):
        with self.assertRaises(NoDay, msg=(town, standing, rows)) as caught:
            gone(town, standing, rows)
        self.assertEqual(caught.exception.day, day)

    def test_row_by_row(self):
        town = ([2, 3], [1, 1, 0])
        self.assertEqual(gone(town, (0, (2, 3)), [[0], [1]]), (2, (1, 3)))
        self.assertEqual(gone(([2, 4], [1, 1, 0]), (1, (2, 4)), [[0], [], [0], [1]]), (2, (1, 4)))

    def test_no_rows(self):
        self.assertEqual(gone(([2, 3], [1]), (0, (1, 2)), []), (0, (1, 2)))
        self.assertEqual(gone(([1, 1], [1]), (0, (1, 1)), []), (0, (1, 1)))

    def test_two_thousand_rows(self):
        rows = [[day % 2] for day in range(2000)]
        self.assertEqual(gone(([2, 2], [1]), (0, (2, 2)), rows), (0, (1, 2)))
        self.refuses(1999, ([2, 2], [1]), (0, (2, 2)), rows[:1999] + [[0]])

    def test_the_number_is_of_the_first_row_that_may_not_be_wound(self):
        town = ([2, 2, 9], [1, 2])
        start = (0, (2, 2, 9))
        good = [[0], [1], [0], [1]]
        self.assertEqual(gone(town, start, good), (0, (1, 2, 5)))
        for bad in ([], [0, 1], [2], [-1, 1], [1, 0], [0, 0], [0, 3], [1]):
            self.refuses(2, town, start, good[:2] + [bad, [9], good[3]])

    def test_the_number_is_counted_from_the_list_not_from_the_day(self):
        self.refuses(0, ([2, 2], [1, 1, 1]), (2, (1, 1)), [[0]])
        self.refuses(1, ([2, 2], [1, 1, 0]), (1, (2, 2)), [[0], [], [0]])

    def test_hands_come_round(self):
        town = ([9, 9], [2, 0])
        self.assertEqual(gone(town, (0, (9, 9)), [[0, 1], [], [0, 1], []]), (0, (8, 8)))
        self.refuses(3, town, (0, (9, 9)), [[0, 1], [], [0, 1], [0]])
        self.refuses(0, town, (1, (9, 9)), [[0], [0, 1]])


if __name__ == "__main__":
    unittest.main()
