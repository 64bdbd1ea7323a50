"""The interface of fewsums.errors."""

from unittest import TestCase

from fewsums import errors
from tests.samples import FIVE


class TestErrors(TestCase):
    def test_sum_error_is_a_value_error(self):
        self.assertEqual(errors.SumError.__bases__, (ValueError,))

    def test_the_five_stand_straight_beneath_it(self):
        for kind in FIVE:
            with self.subTest(kind=kind):
                self.assertEqual(kind.__bases__, (errors.SumError,))

    def test_the_five_are_five(self):
        names = [kind.__name__ for kind in FIVE]
        self.assertEqual(names, ["NoChain", "NoModulus", "NoNumber", "TooLong", "NoNote"])
        self.assertEqual(len(set(FIVE)), 5)

    def test_each_is_taken_as_itself_and_as_a_sum_error_alone(self):
        for kind in FIVE:
            others = tuple(other for other in FIVE if other is not kind)
            with self.subTest(kind=kind):
                self.assertNotIsInstance(kind("words"), others)
                with self.assertRaises(errors.SumError):
                    raise kind("words")
