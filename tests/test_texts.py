import itertools
import random
import re
import unittest

from tests import slow
from windround.errors import NoText, TownError
from windround.plans import plan_of
from windround.texts import read_plan, read_town, show_plan, show_town

SIGNS = [chr(number) for number in range(ord(" "), ord("~") + 1) if number != ord("%")]
GREATEST = 10 ** 40 - 1
SPAN = "[1-9][0-9]{0,39}"
HAND = f"(?:0|{SPAN})"
ROW = "(?:-|(?:0|[1-9][0-9]{0,2})(?:,(?:0|[1-9][0-9]{0,2}))*)"
TOWN = re.compile(f"{SPAN}(?: {SPAN})* \\| {HAND}(?: {HAND})*")
PLAN = re.compile(f"(?:\\.|{ROW}(?: {ROW})*) \\| {ROW}(?: {ROW})*")

TOWNS = [
    (([2, 4, 4], [1]), "2 4 4 | 1"),
    (([1], [0]), "1 | 0"),
    (([12, 3], [0, 10, 0]), "12 3 | 0 10 0"),
    (([GREATEST], [GREATEST, 0, 10 ** 39]), "9" * 40 + " | " + "9" * 40 + " 0 1" + "0" * 39),
    (([7] * 100, [3] * 99), "7 " * 99 + "7 | " + "3 " * 98 + "3"),
]
PLANS = [
    (([[0], [1]], [[0], [2], [0], [1]]), "0 1 | 0 2 0 1"),
    (([], [[0]]), ". | 0"),
    (([], [[]]), ". | -"),
    (([[]], [[]]), "- | -"),
    (([[], [0, 2]], [[1, 10, 999], [], [0]]), "- 0,2 | 1,10,999 - 0"),
    (([[998, 999]], [[0, 1, 2, 3, 4, 5, 6, 7]]), "998,999 | 0,1,2,3,4,5,6,7"),
    (([], [[5], [5], [5]]), ". | 5 5 5"),
]


def is_town(line):
    return TOWN.fullmatch(line) is not None


def is_plan(line):
    if PLAN.fullmatch(line) is None:
        return False
    rows = [[int(clock) for clock in row.split(",")] for row in re.split(r" \| | ", line) if row not in "-."]
    return all(row == sorted(set(row)) for row in rows)


def lines_beside(chance, line):
    """Lines that differ in one place from a line."""
    place = chance.randrange(len(line) + 1)
    sign = chance.choice(SIGNS if chance.random() < 0.3 else list(" |,-.0123456789"))
    return [line[:place] + sign + line[place:], line[:place] + line[place + 1:], line[:place] + sign + line[place + 1:]]


class Texts(unittest.TestCase):
    def refused(self, read, line):
        with self.assertRaises(NoText, msg=line) as caught:
            read(line)
        self.assertIs(type(caught.exception), NoText)

    def check(self, line):
        """A line read as both, where it is to be read written again, else refused."""
        for fits, read, show in ((is_town(line), read_town, show_town), (is_plan(line), read_plan, show_plan)):
            if fits:
                self.assertEqual(show(read(line)), line)
            else:
                self.refused(read, line)

    def test_towns_there_and_back(self):
        for town, line in TOWNS:
            self.assertEqual(show_town(town), line)
            self.assertEqual(read_town(line), town)
            self.assertTrue(is_town(line))

    def test_plans_there_and_back(self):
        for plan, line in PLANS:
            self.assertEqual(show_plan(plan), line)
            self.assertEqual(read_plan(line), plan)
            self.assertTrue(is_plan(line))

    def test_kinds(self):
        town = read_town("2 4 | 1 0")
        self.assertEqual([type(part) for part in (town, *town)], [tuple, list, list])
        self.assertEqual({type(number) for part in town for number in part}, {int})
        for line in ("0 - | 1,2", ". | -"):
            plan = read_plan(line)
            self.assertEqual([type(part) for part in (plan, *plan)], [tuple, list, list])
            self.assertEqual({type(row) for part in plan for row in part}, {list})
        self.assertIs(type(show_town(town)), str)
        self.assertIs(type(show_plan(plan)), str)

    def test_many_towns_and_their_plans(self):
        for town in slow.small_towns() + slow.chance_towns(random.Random(1), 200, 2000):
            self.assertEqual(read_town(show_town(town)), town)
            plan = plan_of(town)
            if plan is not None:
                self.assertEqual(read_plan(show_plan(plan)), plan)

    def test_numbers_of_any_length(self):
        chance = random.Random(2)
        for figures in range(1, 41):
            low, high = 10 ** (figures - 1), 10 ** figures - 1
            numbers = [low, high, chance.randint(low, high)]
            town = (numbers, [0] + numbers)
            self.assertEqual(read_town(show_town(town)), town)

    def test_written_lines_are_read_however_long(self):
        plan = ([[0, 1, 2]] * 2000, [[], [999]] * 1000)
        self.assertGreater(len(show_plan(plan)), 400)
        self.assertEqual(read_plan(show_plan(plan)), plan)
        town = ([GREATEST] * 40, [GREATEST] * 40)
        self.assertEqual(read_town(show_town(town)), town)

    def test_a_plan_is_read_whether_it_keeps_anything_or_not(self):
        self.assertEqual(read_plan("7 | 1,3 -"), ([[7]], [[1, 3], []]))
        self.assertEqual(read_plan("999 - - 999 | 0"), ([[999], [], [], [999]], [[0]]))

    def test_refused_towns(self):
        lines = [
            "", " ", "|", " | ", "2", "2 4", "2 | ", " | 1", "2 |", "| 1", "2|1", "2 |1", "2| 1",
            "2 4 4  | 1", "2 4 4 |  1", "2  4 4 | 1", " 2 4 4 | 1", "2 4 4 | 1 ", "2 4 4 | 1  1", "24 4 || 1",
            "2 4 4 | 1 | 1", "2 | | 1", "2 |  | 1", "2 4 4 || 1", "2 4 4 1",
            "02 4 | 1", "2 04 | 1", "2 4 | 01", "2 4 | 00", "00 | 1",
            "+2 | 1", "-2 | 1", "2 | -1", "2 | +1", "2 | -0", "- | 1",
            "1" * 41 + " | 1", "1 | " + "1" * 41, "1 | 1 " + "9" * 41,
            "0 | 1", "2 0 | 1", "0 2 | 1", "2,4 | 1", "2 4 | 1,1", ". | 1", "2 | .", "2 | -",
            "2.0 | 1", "1_0 | 1", "1e3 | 1", "0x1 | 1", "a | 1", "2 | b", "2 4; | 1", "2 ~ 1", "\"2\" | 1", "(2) | 1",
        ]
        for line in lines:
            self.refused(read_town, line)
            self.assertFalse(is_town(line), line)

    def test_refused_plans(self):
        lines = [
            "", " ", "|", " | ", ".", "0", ". | ", " | 0", ". |", "| 0", ".|0", ". |0", ".| 0", "0 1",
            " . | 0", ". | 0 ", ".  | 0", ". |  0", "0  1 | 0", "0 | 0  1", " 0 | 0",
            ". | 0 | 0", "0 || 0", "0 | | 0", "0 |  | 0",
            "00 | 0", "01 | 0", "0 | 00", "0 | 1,02", "0 | 007", "+1 | 0", "-1 | 0", "0 | -1", "0 | 1,-2", "0 | +1",
            "1000 | 0", "0 | 1000", "0 | 1,1000", "0 | 999,1000", "0 | " + "1" * 40, "0 | " + "1" * 41,
            "1,0 | 0", "0 | 2,1", "0 | 1,1", "0 | 0,0", "0 | 0,2,1", "0 | 10,9", "3,3 | 0",
            ",0 | 0", "0, | 0", "0 | ,0", "0 | 0,", "0 | 0,,1", "0 | ,", ", | 0", "0 | 0, 1", "0 | 0 ,1",
            "0 | .", ". | .", ". . | 0", ". 0 | 0", "0 . | 0", "0 | 0 .", "0 | . 0", ".0 | 0", "0. | 0", "0 | 0.5", ".. | 0",
            "-- | 0", "0 | --", "0 | 0,-", "0 | -,0", "0 | -0", "- - - |",
            "a | 0", "0 | b", "0 | 1;2", "0 | 1_0", "0 | 1e2", "0 ~ 0", "[0] | 0", "0 | (1,2)", "0x1 | 0",
        ]
        for line in lines:
            self.refused(read_plan, line)
            self.assertFalse(is_plan(line), line)

    def test_a_refusal_stands_beneath_town_error(self):
        for read in (read_town, read_plan):
            with self.assertRaises(TownError):
                read("no")
            with self.assertRaises(ValueError):
                read("no")

    def test_each_other_sign_is_refused(self):
        for sign in SIGNS:
            if sign not in " 0123456789":
                for line in (f"{sign} | 1", f"2{sign} | 1", f"{sign}2 | 1", f"2{sign}4 | 1", f"2 | 1{sign}", f"2 {sign} 1"):
                    if line != "2 | 1":
                        self.refused(read_town, line)
            for line in (f"0 | 1{sign}", f"0 | {sign}1", f"0{sign} | 1", f"{sign} | 1", f"0 | 1{sign}2", f"0 {sign} 1"):
                self.check(line)

    def test_all_short_lines(self):
        for length in range(6):
            for signs in itertools.product("01 |,-.", repeat=length):
                self.check("".join(signs))
        halves = ["".join(signs) for many in (1, 2) for signs in itertools.product("019 |,-.", repeat=many)]
        for ahead, behind in itertools.product(halves, repeat=2):
            self.check(f"{ahead} | {behind}")

    def test_lines_beside_written_ones(self):
        chance = random.Random(3)
        for turn in range(300):
            for thing, line in TOWNS[:4] + PLANS:
                for beside in lines_beside(chance, line):
                    self.check(beside)

    def test_lines_of_four_hundred_signs(self):
        chance = random.Random(4)
        for sign in SIGNS:
            self.check(sign * 400)
        for turn in range(200):
            self.check("".join(chance.choice(SIGNS) for place in range(400)))
            self.check("".join(chance.choice(" 12|,-.") for place in range(400)))
        town = "1 " * 197 + "12 | 0"
        plan = ". | " + "- " * 197 + "10"
        for line in (town, plan):
            self.assertEqual(len(line), 400)
            for beside in [line] + lines_beside(chance, line[:-1]):
                self.check(beside[:400])
        self.assertEqual(read_town(town), ([1] * 197 + [12], [0]))
        self.assertEqual(read_plan(plan), ([], [[]] * 197 + [[10]]))


if __name__ == "__main__":
    unittest.main()
