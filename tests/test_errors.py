"""The refusals (the interface, rillweb/errors.py)."""

import unittest

import plain

from rillweb import errors
from rillweb.errors import NoBed, NoPlace, NoWeb, RillError, TooLong

OF_A_TEXT = ("NoShare", "NoCourse", "NoDay", "NoDepths", "NoRain", "NoDigs", "NoTurned", "NoTie")
OF_A_VALUE = {"TooLong": "place", "NoPlace": "place", "NoWeb": "part", "NoBed": "bed"}


class TestErrors(unittest.TestCase):
    def test_rill_error_stands_straight_under_value_error(self):
        self.assertEqual(RillError.__bases__, (ValueError,))

    def test_each_stands_straight_under_rill_error(self):
        for name in OF_A_TEXT + tuple(OF_A_VALUE):
            self.assertEqual(getattr(errors, name).__bases__, (RillError,), name)

    def test_there_are_twelve(self):
        self.assertEqual(len(set(OF_A_TEXT + tuple(OF_A_VALUE))), 12)

    def test_no_one_catches_another_one(self):
        kinds = [getattr(errors, name) for name in OF_A_TEXT + tuple(OF_A_VALUE)]
        for one in kinds:
            self.assertEqual([other for other in kinds if issubclass(one, other)], [one])

    def test_str_is_the_text(self):
        for name in OF_A_TEXT + ("RillError",):
            for text in ("", "no", "two words, {and} more\nthan that"):
                self.assertEqual(str(getattr(errors, name)(text)), text)

    def test_the_value_is_the_very_object(self):
        values = plain.odd_things() + [0, -1, 10 ** 50, "beds", [[]], plain.shares(1)]
        for name, attribute in OF_A_VALUE.items():
            for value in values:
                self.assertIs(getattr(getattr(errors, name)(value), attribute), value, name)

    def test_a_value_stays_the_object_that_it_was(self):
        rows = [1]
        for error in (TooLong(rows), NoPlace(rows)):
            self.assertIs(error.place, rows)
        self.assertIs(NoWeb(rows).part, rows)
        self.assertIs(NoBed(rows).bed, rows)
        self.assertEqual(rows, [1])

    def test_they_can_be_shown_whatever_the_value(self):
        huge = 10 ** 6000
        for error in (TooLong(huge), NoPlace(huge), NoWeb(huge), NoBed(huge)):
            self.assertTrue(str(error))

    def test_they_are_caught_as_value_errors(self):
        with self.assertRaises(ValueError):
            raise NoPlace([])
