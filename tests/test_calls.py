"""[A3], the interface: where each function stands, and the names of its arguments."""

import importlib
import inspect
import unittest

from tests.support import MIXED, TWO, Case

# Module, function, the names of its arguments, some arguments.
CALLS = (
    ("manners", "manners_error", ("value",), (MIXED,)),
    ("manners", "evens", ("manners", "hand"), (MIXED, 2)),
    ("manners", "over_pairs", ("manners",), (MIXED,)),
    ("manners", "renamed", ("manners", "row"), (MIXED, (2, 0, 1))),
    ("kinds", "known", ("word", "many"), ("ranked", 3)),
    ("mannertexts", "manners_text", ("manners",), (MIXED,)),
    ("mannertexts", "read_manners", ("value",), ("1 even\n0 even",)),
)


class Calls(Case):
    def test_names(self):
        for file, name, names, told in CALLS:
            module = importlib.import_module(f"bowstands.{file}")
            call = getattr(module, name)
            self.assertTrue(inspect.isfunction(call))
            self.assertEqual(call.__module__, f"bowstands.{file}")
            self.assertEqual(tuple(inspect.signature(call).parameters), names)
            by_name = dict(zip(names, told))
            self.same(call(**by_name), call(*told))
            self.same(call(**dict(reversed(by_name.items()))), call(*told))
            self.keeps(call, *told)

    def test_arguments_are_needed(self):
        for file, name, names, told in CALLS:
            call = getattr(importlib.import_module(f"bowstands.{file}"), name)
            with self.assertRaises(TypeError):
                call(*told[:-1])
            with self.assertRaises(TypeError):
                call(*told, TWO)


if __name__ == "__main__":
    unittest.main()
