"""The errors: their bases, parameters and attributes."""

import inspect
import unittest

from fewheld import errors
from tests.helpers import Alike, Checks, Own, SOME_BOOK, Touchy

# name: (base, parameters)
TOLD = {
    "BookError": (ValueError, ()),
    "InvalidLetters": ("BookError", ("value",)),
    "InvalidSize": ("BookError", ("value",)),
    "InvalidStates": ("BookError", ("position",)),
    "InvalidSteps": ("BookError", ("position",)),
    "InvalidBook": ("BookError", ("value",)),
    "InvalidRow": ("BookError", ("value",)),
    "InvalidLetter": ("BookError", ("value",)),
    "InvalidSet": ("BookError", ("value",)),
    "InvalidCount": ("BookError", ("value",)),
    "InvalidStep": ("BookError", ("value",)),
    "InvalidRooms": ("BookError", ("position",)),
    "InvalidOrder": ("BookError", ("value",)),
    "InvalidTable": ("BookError", ("value",)),
    "InvalidRule": ("BookError", ("value",)),
    "InvalidPrices": ("BookError", ("position",)),
    "InvalidWindow": ("BookError", ("value",)),
    "InvalidRun": ("BookError", ("value",)),
    "InvalidThings": ("BookError", ("position",)),
    "InvalidName": ("BookError", ("value",)),
    "InvalidText": ("BookError", ("line",)),
    "InvalidClaim": ("BookError", ("value",)),
    "InvalidCommand": ("BookError", ("value",)),
    "MissingError": (LookupError, ()),
    "UnknownName": ("MissingError", ("name",)),
    "StateError": (RuntimeError, ()),
    "OtherLetters": ("StateError", ("one", "other")),
    "OtherSize": ("StateError", ("one", "other")),
    "NotEnough": ("StateError", ("budget",)),
    "NothingToTake": ("StateError", ()),
    "NameTaken": ("StateError", ("name",)),
    "NothingToUndo": ("StateError", ()),
    "CommandFailed": ("StateError", ("position",)),
    "LimitError": (ArithmeticError, ()),
    "TooMany": ("LimitError", ("what", "limit")),
}
ANY_VALUES = [None, True, 0, -3, 10 ** 29, 1.5, "", "some text", b"x", [1, [2]], (1, 2), {"a": 1}, {1}, Own(), Alike(),
              Touchy(), SOME_BOOK, int]


class Errors(Checks):
    def test_there_are_just_these(self):
        found = {name: made for name, made in vars(errors).items() if inspect.isclass(made)}
        self.assertEqual(sorted(found), sorted(TOLD))

    def test_each_derives_directly_from_the_class_that_is_named(self):
        for name, (base, _) in TOLD.items():
            with self.subTest(name):
                due = getattr(errors, base) if isinstance(base, str) else base
                self.assertEqual(getattr(errors, name).__bases__, (due,))

    def test_each_is_defined_in_the_module(self):
        for name in TOLD:
            self.assertEqual(getattr(errors, name).__module__, "fewheld.errors")

    def test_any_values_are_kept_by_position(self):
        for name, (_, parameters) in TOLD.items():
            for value in ANY_VALUES:
                values = [value] * len(parameters)
                raised = getattr(errors, name)(*values)
                self.check_error(raised, getattr(errors, name), dict(zip(parameters, values)))

    def test_any_values_are_kept_by_name(self):
        for name, (_, parameters) in TOLD.items():
            for value in ANY_VALUES:
                told = {parameter: value for parameter in parameters}
                raised = getattr(errors, name)(**told)
                self.check_error(raised, getattr(errors, name), told)

    def test_two_parameters_keep_their_sequence(self):
        raised = errors.OtherLetters("ab", "abc")
        self.assertEqual((raised.one, raised.other), ("ab", "abc"))
        raised = errors.OtherSize(3, 2)
        self.assertEqual((raised.one, raised.other), (3, 2))
        raised = errors.TooMany(limit=7, what="states")
        self.assertEqual((raised.what, raised.limit), ("states", 7))

    def test_they_are_caught_by_their_bases(self):
        for name, (base, parameters) in TOLD.items():
            due = getattr(errors, base) if isinstance(base, str) else base
            with self.assertRaises(due):
                raise getattr(errors, name)(*parameters)

    def test_groups_are_apart(self):
        self.assertFalse(issubclass(errors.UnknownName, ValueError))
        self.assertFalse(issubclass(errors.OtherLetters, ValueError))
        self.assertFalse(issubclass(errors.TooMany, (ValueError, LookupError, RuntimeError)))


if __name__ == "__main__":
    unittest.main()
