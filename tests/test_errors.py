import unittest

from windround.errors import NoDay, NoHands, NoText, NoTown, Taken, TownError

REFUSALS = [NoDay, NoHands, NoText, NoTown, Taken]


class Errors(unittest.TestCase):
    def test_each_refusal_stands_beneath_town_error_and_value_error(self):
        self.assertTrue(issubclass(TownError, ValueError))
        for refusal in REFUSALS:
            self.assertTrue(issubclass(refusal, TownError), refusal)
            self.assertTrue(issubclass(refusal, ValueError), refusal)

    def test_no_refusal_stands_beneath_another(self):
        for one in REFUSALS:
            for other in REFUSALS:
                self.assertEqual(issubclass(one, other), one is other, (one, other))
            self.assertFalse(issubclass(TownError, one), one)

    def test_town_error_stands_beneath_none_of_pythons_other_refusals(self):
        self.assertEqual(TownError.__bases__, (ValueError,))

    def test_no_day_keeps_its_day(self):
        for day in (0, 1, 17, 1999):
            self.assertEqual(NoDay(day).day, day)
            with self.assertRaises(TownError) as caught:
                raise NoDay(day)
            self.assertEqual(caught.exception.day, day)

    def test_the_others_can_be_raised_with_words(self):
        for refusal in (NoHands, NoText, NoTown, Taken):
            with self.assertRaises(TownError):
                raise refusal("no")


if __name__ == "__main__":
    unittest.main()
