"""The interface: bowstands.errors."""

import unittest

from bowstands import errors
from tests.support import Case, odd_values

WITH_FIELD = (
    (errors.BadManners, "error"),
    (errors.BadRun, "place"),
    (errors.BadText, "place"),
    (errors.BadLog, "place"),
    (errors.Refused, "word"),
    (errors.TooMany, "limit"),
)
BARE = (errors.Unfit, errors.NothingToUndo)


class Errors(Case):
    def test_family(self):
        self.assertEqual(errors.BowError.__bases__, (ValueError,))
        for kind in [kind for kind, _ in WITH_FIELD] + list(BARE):
            self.assertEqual(kind.__bases__, (errors.BowError,))
            self.assertEqual(kind.__module__, "bowstands.errors")

    def test_names(self):
        names = [kind.__name__ for kind in errors.BowError.__subclasses__()]
        due = ["BadLog", "BadManners", "BadRun", "BadText", "NothingToUndo", "Refused", "TooMany", "Unfit"]
        self.assertEqual(sorted(names), due)

    def test_fields_by_place_and_by_name(self):
        for kind, name in WITH_FIELD:
            for value in odd_values() + [("row", 3), "form", 900, [1, [2]]]:
                for made in (kind(value), kind(**{name: value})):
                    self.assertEqual(list(vars(made)), [name])
                    self.assertIs(getattr(made, name), value)
                    self.assertIsInstance(str(made), str)

    def test_fields_are_needed(self):
        for kind, _ in WITH_FIELD:
            with self.assertRaises(TypeError):
                kind()
            with self.assertRaises(TypeError):
                kind(other=1)

    def test_bare_ones(self):
        for kind in BARE:
            self.assertEqual(vars(kind()), {})
            self.assertIsInstance(str(kind()), str)

    def test_raised(self):
        for kind, name in WITH_FIELD:
            with self.assertRaises(errors.BowError) as caught:
                raise kind(7)
            self.assertEqual(getattr(caught.exception, name), 7)
        for kind in BARE:
            with self.assertRaises(ValueError):
                raise kind()


if __name__ == "__main__":
    unittest.main()
