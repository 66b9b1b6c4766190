"""Point 0.4 and the interface of errors."""

import unittest

from knockpurse import errors
from knockpurse.errors import KnockError, NoBeat, NoLine, NoNumber, NoStep, NoStory, NoText, TooGreat

REFUSALS = (NoBeat, NoStep, NoNumber, NoLine, NoStory, NoText, TooGreat)


class Errors(unittest.TestCase):
    def test_knock_error_stands_under_value_error(self):
        self.assertEqual(KnockError.__bases__, (ValueError,))

    def test_each_refusal_stands_straight_under_knock_error(self):
        for refusal in REFUSALS:
            self.assertEqual(refusal.__bases__, (KnockError,))

    def test_there_are_just_these_classes(self):
        classes = [thing for thing in vars(errors).values() if isinstance(thing, type)]
        self.assertEqual(set(classes), {KnockError, *REFUSALS})

    def test_those_without_fields_are_made_with_nothing(self):
        for refusal in (NoBeat, NoStep, NoNumber, NoLine):
            self.assertEqual(vars(refusal()), {})

    def test_fields(self):
        self.assertEqual(vars(NoStory(7)), {"number": 7})
        self.assertEqual(vars(NoText(0)), {"row": 0})
        self.assertEqual(vars(TooGreat(201, 200)), {"many": 201, "most": 200})

    def test_fields_are_each_object_s_own(self):
        one, other = TooGreat(1, 2), TooGreat(3, 4)
        self.assertEqual((one.many, one.most, other.many, other.most), (1, 2, 3, 4))

    def test_each_can_be_taken_as_knock_error(self):
        for made in (NoBeat(), NoStep(), NoNumber(), NoLine(), NoStory(0), NoText(1), TooGreat(2, 1)):
            with self.assertRaises(KnockError):
                raise made


if __name__ == "__main__":
    unittest.main()
