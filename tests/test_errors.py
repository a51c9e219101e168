"""[interface, fourth paragraph] The families, the errors, their fields."""

import unittest

from oneistrue import errors
from tests.support import Case

FAMILIES = ("PaperError", "TableError", "LiveError", "TextError")
ERRORS = {
    "InvalidPaper": ("PaperError", ("word", "at")),
    "NotUsable": ("TableError", ("word", "at")),
    "Falling": ("TableError", ("here", "there")),
    "NotBest": ("TableError", ("direction", "lot")),
    "InvalidEvent": ("LiveError", ("event", "reason")),
    "NothingToUndo": ("LiveError", ("steps",)),
    "InvalidText": ("TextError", ("line", "field")),
    "InvalidRow": ("TextError", ("row",)),
}


class ErrorsTest(Case):
    def test_base(self):
        self.assertEqual(errors.CourtError.__bases__, (ValueError,))

    def test_families(self):
        for name in FAMILIES:
            self.assertEqual(getattr(errors, name).__bases__, (errors.CourtError,), name)

    def test_each_error_comes_directly_from_its_family(self):
        for name, (family, _) in ERRORS.items():
            self.assertEqual(getattr(errors, name).__bases__, (getattr(errors, family),), name)

    def test_defined_in_errors(self):
        for name in ("CourtError",) + FAMILIES + tuple(ERRORS):
            self.assertEqual(getattr(errors, name).__module__, "oneistrue.errors")

    def test_fields_are_the_very_objects(self):
        for name, (_, fields) in ERRORS.items():
            kind = getattr(errors, name)
            values = [[field] for field in fields]
            for error in (kind(*values), kind(**dict(zip(fields, values)))):
                self.assertEqual(sorted(vars(error)), sorted(fields), name)
                for field, kept in zip(fields, values):
                    self.assertIs(getattr(error, field), kept, (name, field))

    def test_any_values(self):
        for given in (None, True, -1, "x", (), [None], object()):
            for name, (_, fields) in ERRORS.items():
                error = getattr(errors, name)(*[given for _ in fields])
                for field in fields:
                    self.assertIs(getattr(error, field), given)

    def test_exactly_the_fields(self):
        for name, (_, fields) in ERRORS.items():
            kind = getattr(errors, name)
            for many in (0, len(fields) - 1, len(fields) + 1):
                if many != len(fields):
                    with self.assertRaises(TypeError):
                        kind(*[0] * many)
            with self.assertRaises(TypeError):
                kind(*[0] * len(fields), other=1)

    def test_raised_and_caught_by_family(self):
        for name, (family, fields) in ERRORS.items():
            for catch in (getattr(errors, family), errors.CourtError, ValueError):
                with self.assertRaises(catch):
                    raise getattr(errors, name)(*[0 for _ in fields])


if __name__ == "__main__":
    unittest.main()
