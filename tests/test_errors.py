"""The errors: their classes and fields."""

import unittest

from coatrows import errors
from tests.checking import Checked

FIELDS = {
    "InvalidRegion": ["index"],
    "InvalidFact": ["index"],
    "InvalidPatch": ["index"],
    "InvalidClaim": ["index"],
    "InvalidDeed": ["index"],
    "InvalidColour": ["colour"],
    "InvalidNumber": ["number"],
    "UnknownRegion": ["region"],
    "InvalidMap": ["index"],
    "InvalidText": ["column"],
    "Contradiction": ["there", "back"],
    "TooMany": ["limit"],
    "NothingToUndo": [],
}


class Errors(Checked):
    def test_all_are_straight_under_the_one(self):
        self.assertEqual(errors.CoatError.__bases__, (ValueError,))
        for name in FIELDS:
            self.assertEqual(getattr(errors, name).__bases__, (errors.CoatError,), name)

    def test_fields_by_position_and_by_name(self):
        for name, fields in FIELDS.items():
            made = getattr(errors, name)
            worths = [[("a", bool(at))] for at in range(len(fields))]
            told = dict(zip(fields, worths))
            self.assertEqual(vars(made(*worths)), told)
            self.assertEqual(vars(made(**told)), told)

    def test_fields_are_all_asked_for(self):
        for name, fields in FIELDS.items():
            made = getattr(errors, name)
            if fields:
                self.assertRaises(TypeError, made, *[1] * (len(fields) + 1))
                self.assertRaises(TypeError, made, *[1] * (len(fields) - 1))

    def test_the_very_things_are_kept(self):
        thing = [["x"]]
        for name, fields in FIELDS.items():
            if len(fields) == 1:
                error = getattr(errors, name)(thing)
                self.assertIs(getattr(error, fields[0]), thing)

    def test_lists_of_claims_are_copied(self):
        there, back = [("a", True), ("a", False)], [("a", False), ("a", True)]
        error = errors.Contradiction(there, back)
        there.append(("b", True))
        back.clear()
        self.assertEqual(error.there, [("a", True), ("a", False)])
        self.assertEqual(error.back, [("a", False), ("a", True)])
        same = [("a", True)]
        error = errors.Contradiction(same, same)
        self.assertIsNot(error.there, error.back)

    def test_they_are_raised_and_caught(self):
        self.refused(errors.CoatError, {}, self.raised, errors.CoatError())
        with self.assertRaises(errors.CoatError):
            self.raised(errors.TooMany(30))
        with self.assertRaises(ValueError):
            self.raised(errors.NothingToUndo())

    def raised(self, error):
        raise error


if __name__ == "__main__":
    unittest.main()
