"""The classes of refusals."""

import unittest

from hungwords import errors

WITH_WORDS = [errors.NoHanging, errors.NoPlain, errors.NoSum, errors.NoEntry, errors.Apart, errors.BadText]


class ErrorsTest(unittest.TestCase):
    def test_all_stand_straight_under_hang_error(self):
        self.assertEqual(errors.HangError.__bases__, (ValueError,))
        for one in WITH_WORDS + [errors.NoStep, errors.BadSheet]:
            self.assertEqual(one.__bases__, (errors.HangError,))

    def test_names(self):
        names = "NoHanging NoPlain NoSum NoEntry Apart BadText".split()
        self.assertEqual([one.__name__ for one in WITH_WORDS], names)

    def test_made_with_words(self):
        for one in WITH_WORDS:
            self.assertEqual(str(one("some words")), "some words")

    def test_fields(self):
        self.assertEqual(errors.NoStep(3).place, 3)
        self.assertEqual(errors.BadSheet(0).row, 0)

    def test_each_is_taken_by_its_own_class_alone(self):
        for one in WITH_WORDS + [errors.NoStep, errors.BadSheet]:
            others = [other for other in WITH_WORDS + [errors.NoStep, errors.BadSheet] if other is not one]
            self.assertFalse(isinstance(one(1), tuple(others)))
