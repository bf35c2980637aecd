"""The interface: bowstands.bounds."""

import unittest

from bowstands import bounds
from tests.support import Case


class Bounds(Case):
    def test_numbers(self):
        self.same(bounds.MAX_HANDS, 6)
        self.same(bounds.MAX_MOVES, 900)
        self.same(bounds.MAX_SLOW, 1500)
        self.same(bounds.MAX_COME, 4000)
        self.same(bounds.MAX_EDITS, 60)


if __name__ == "__main__":
    unittest.main()
