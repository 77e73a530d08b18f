import copy
import unittest

from tests.test_own import lists_in
from windround.desk import Desk
from windround.errors import NoHands, NoTown, Taken, TownError
from windround.mends import least_mend
from windround.papers import paper_of
from windround.plans import plan_of

KEPT = ([2, 4, 4], [1])
LOST = ([2, 2, 2], [1])
NO_HANDS = ([3, 3], [0, 0])
WIDE = ([2, 4, 5], [1, 1, 2])


def three():
    desk = Desk()
    desk.put("kept", KEPT)
    desk.put("lost", LOST)
    desk.put("nohands", NO_HANDS)
    return desk


def all_told(desk):
    """Everything that a desk tells, refusals too."""
    told = [desk.names()]
    for name in desk.names():
        told += [desk.town(name), desk.plan(name), desk.paper(name)]
        try:
            told.append(desk.mend(name))
        except NoHands:
            told.append("no hands")
    return told


class Desks(unittest.TestCase):
    def refused(self, refusal, call, *given):
        with self.assertRaises(refusal) as caught:
            call(*given)
        self.assertIs(type(caught.exception), refusal)
        self.assertIsInstance(caught.exception, TownError)

    def tells(self, desk, name, town):
        self.assertEqual(desk.town(name), town)
        self.assertEqual(desk.plan(name), plan_of(town))
        self.assertEqual(desk.paper(name), paper_of(town))
        if sum(town[1]) == 0:
            self.refused(NoHands, desk.mend, name)
        else:
            self.assertEqual(desk.mend(name), least_mend(town))

    def test_a_new_desk_has_no_names(self):
        desk = Desk()
        self.assertEqual(desk.names(), [])
        for call in (desk.away, desk.town, desk.plan, desk.paper, desk.mend):
            self.refused(NoTown, call, "kept")
        self.refused(NoTown, desk.change, "kept", KEPT)
        self.assertEqual(desk.names(), [])

    def test_what_it_tells_is_what_the_functions_tell(self):
        desk = three()
        self.tells(desk, "kept", KEPT)
        self.tells(desk, "lost", LOST)
        self.tells(desk, "nohands", NO_HANDS)
        self.assertEqual(desk.mend("lost")[:2], (3, [3, 3, 3]))

    def test_nothing_is_told_by_what_changes(self):
        desk = Desk()
        self.assertIsNone(desk.put("kept", KEPT))
        self.assertIsNone(desk.change("kept", LOST))
        self.assertIsNone(desk.away("kept"))

    def test_change_and_away(self):
        desk = three()
        desk.change("kept", WIDE)
        self.tells(desk, "kept", WIDE)
        self.tells(desk, "lost", LOST)
        desk.change("kept", LOST)
        self.tells(desk, "kept", LOST)
        desk.away("kept")
        self.assertEqual(desk.names(), ["lost", "nohands"])
        for call in (desk.away, desk.town, desk.plan, desk.paper, desk.mend):
            self.refused(NoTown, call, "kept")
        desk.put("kept", WIDE)
        self.tells(desk, "kept", WIDE)

    def test_names_in_the_order_of_texts(self):
        names = ["b", "a", "zz", "z", "ab", "aa", "abcdefghijkl", "kirkby", "m"]
        desk = Desk()
        for name in names:
            desk.put(name, KEPT)
        self.assertEqual(desk.names(), ["a", "aa", "ab", "abcdefghijkl", "b", "kirkby", "m", "z", "zz"])
        desk.change("m", LOST)
        desk.away("aa")
        desk.put("aaa", KEPT)
        self.assertEqual(desk.names(), ["a", "aaa", "ab", "abcdefghijkl", "b", "kirkby", "m", "z", "zz"])

    def test_a_taken_name(self):
        desk = three()
        before = all_told(desk)
        self.refused(Taken, desk.put, "kept", LOST)
        self.refused(Taken, desk.put, "kept", KEPT)
        self.assertEqual(all_told(desk), before)

    def test_a_name_that_no_town_has(self):
        desk = three()
        before = all_told(desk)
        for name in ("kep", "keptt", "abcdefghijkl"):
            for call in (desk.away, desk.town, desk.plan, desk.paper, desk.mend):
                self.refused(NoTown, call, name)
            self.refused(NoTown, desk.change, name, KEPT)
        self.assertEqual(all_told(desk), before)

    def test_no_hands(self):
        desk = three()
        before = all_told(desk)
        self.refused(NoHands, desk.mend, "nohands")
        self.assertEqual(all_told(desk), before)
        desk.change("nohands", ([3, 3], [0, 1]))
        self.assertEqual(desk.mend("nohands"), least_mend(([3, 3], [0, 1])))

    def test_what_was_handed_in_is_changed_afterwards(self):
        mine, other = copy.deepcopy(KEPT), copy.deepcopy(WIDE)
        desk = Desk()
        desk.put("one", mine)
        desk.put("two", KEPT)
        desk.change("two", other)
        for numbers in mine + other:
            numbers.clear()
            numbers.append(9)
        self.tells(desk, "one", KEPT)
        self.tells(desk, "two", WIDE)

    def test_one_town_put_twice(self):
        mine = copy.deepcopy(KEPT)
        desk = Desk()
        desk.put("one", mine)
        desk.put("two", mine)
        desk.put("three", desk.town("one"))
        desk.town("one")[0].append(5)
        desk.change("two", LOST)
        self.assertEqual([desk.town(name) for name in desk.names()], [KEPT, KEPT, LOST])

    def test_what_was_told_is_changed_afterwards(self):
        desk = three()
        before = copy.deepcopy(all_told(desk))
        for told in all_told(desk):
            for numbers in lists_in(told):
                numbers.append(99)
                numbers.reverse()
        self.assertEqual(all_told(desk), before)

    def test_what_is_told_is_new_each_time(self):
        desk = three()
        places = [id(one) for one in lists_in(all_told(desk) + all_told(desk) + [KEPT, LOST, NO_HANDS])]
        self.assertEqual(len(set(places)), len(places))

    def test_what_is_handed_in_stays_as_it_was(self):
        towns = copy.deepcopy((KEPT, LOST, NO_HANDS, WIDE))
        desk = three()
        desk.change("kept", WIDE)
        all_told(desk)
        self.assertEqual((KEPT, LOST, NO_HANDS, WIDE), towns)

    def test_two_desks_side_by_side(self):
        one, other = three(), Desk()
        self.assertEqual(other.names(), [])
        other.put("kept", LOST)
        self.tells(one, "kept", KEPT)
        self.tells(other, "kept", LOST)
        one.away("kept")
        self.tells(other, "kept", LOST)
        other.change("kept", WIDE)
        self.assertEqual((one.names(), other.names()), (["lost", "nohands"], ["kept"]))


if __name__ == "__main__":
    unittest.main()
