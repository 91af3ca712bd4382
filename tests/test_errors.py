"""The refusals: one class under which all stand, each straight under it, with its fields."""

import unittest

from mirrorstair import errors
from mirrorstair.errors import BadText, Fault, NoName, StairError, TooHigh, TooLong

WITHOUT = ("NoBack", "NoKind", "NoLevel", "NoLine", "NoStair", "NotDone")
WITH = ("BadText", "Fault", "TooLong", "TooHigh", "NoName")


class Errors(unittest.TestCase):
    def test_stand_straight_under_one(self):
        self.assertEqual((ValueError,), StairError.__bases__)
        for name in WITHOUT + WITH:
            self.assertEqual((StairError,), getattr(errors, name).__bases__, name)

    def test_defined_there(self):
        for name in WITHOUT + WITH + ("StairError",):
            self.assertEqual("mirrorstair.errors", getattr(errors, name).__module__)

    def test_fields(self):
        self.assertEqual(3, BadText(3).at)
        self.assertEqual("sort", Fault("sort").word)
        self.assertEqual(9, TooLong(9).steps)
        self.assertEqual((2, "(up 1)"), (TooHigh(2, "(up 1)").level, TooHigh(2, "(up 1)").text))
        self.assertEqual("abc", NoName("abc").word)
