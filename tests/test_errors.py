"""The errors and what they keep [0.2, the interface]."""

import unittest

from quicktongue import errors
from quicktongue.errors import QuickError
from tests.support import ODD_VALUES

WITH_THING = (
    "BadTree", "BadProgram", "BadWord", "BadPath", "BadRaw", "BadName", "BadInputs", "BadPoly", "BadTable",
    "BadNumber", "BadStep", "BadUnit", "BadStanding", "BadSharing", "BadUnits", "BadMachine",
)
WITH_AT = ("BadText", "BadBytes")


class ErrorsTest(unittest.TestCase):
    def test_there_are_eighteen_and_their_base(self):
        found = {name for name, thing in vars(errors).items() if isinstance(thing, type)}
        self.assertEqual(found, {"QuickError", *WITH_THING, *WITH_AT})
        self.assertEqual(QuickError.__bases__, (Exception,))

    def test_each_derives_directly_from_the_base_alone(self):
        for name in WITH_THING + WITH_AT:
            made = getattr(errors, name)(1)
            self.assertEqual(type(made).__bases__, (QuickError,))
            for other in ("QuickError",) + WITH_THING + WITH_AT:
                self.assertEqual(isinstance(made, getattr(errors, other)), other in (name, "QuickError"))
            self.assertIsInstance(made, Exception)
            for base in (ValueError, TypeError, LookupError, ArithmeticError, RuntimeError):
                self.assertNotIsInstance(made, base)

    def test_attributes_hold_just_what_was_passed(self):
        for names, attribute in ((WITH_THING, "thing"), (WITH_AT, "at")):
            for name in names:
                for value in ODD_VALUES:
                    by_position = getattr(errors, name)(value)
                    by_name = getattr(errors, name)(**{attribute: value})
                    self.assertIs(getattr(by_position, attribute), value)
                    self.assertIs(getattr(by_name, attribute), value)

    def test_they_take_exactly_one_parameter_of_this_name(self):
        for name in WITH_THING + WITH_AT:
            wrong = "at" if name in WITH_THING else "thing"
            with self.assertRaises(TypeError):
                getattr(errors, name)()
            with self.assertRaises(TypeError):
                getattr(errors, name)(1, 2)
            with self.assertRaises(TypeError):
                getattr(errors, name)(**{wrong: 1})

    def test_they_can_be_raised_and_caught(self):
        for name in WITH_THING + WITH_AT:
            with self.assertRaises(QuickError):
                raise getattr(errors, name)(None)
