"""README.md: what it shows is so."""

import doctest
import pathlib
import unittest

PATH = pathlib.Path(__file__).parent.parent / "README.md"


class Readme(unittest.TestCase):
    def test_shown(self):
        found = doctest.testfile(str(PATH), module_relative=False)
        self.assertEqual(found.failed, 0)
        self.assertGreater(found.attempted, 0)


if __name__ == "__main__":
    unittest.main()
