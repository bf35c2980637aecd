"""[A7]: bowstands.kinds."""

import unittest

from bowstands.kinds import known
from bowstands.manners import manners_error, over_pairs
from tests.support import Case


class Known(Case):
    def test_words(self):
        for word, to_later, to_earlier in (
            ("ranked", "stand", "bow"),
            ("level", "even", "even"),
            ("meek", "bow", "bow"),
            ("proud", "stand", "stand"),
        ):
            for many in range(2, 7):
                table, orders, early = manners = known(word, many)
                self.same(manners_error(manners), None)
                self.same(early, ())
                self.assertEqual(len(table), many)
                for i in range(many):
                    due = [to_earlier] * i + ["-"] + [to_later] * (many - i - 1)
                    self.same(table[i], tuple(due))
                    self.same(orders[i], tuple(j for j in range(many) if j != i))
                self.keeps(known, word, many)

    def test_ranked_is_over(self):
        for many in range(2, 7):
            due = tuple((i, j) for i in range(many) for j in range(i + 1, many))
            self.same(over_pairs(known("ranked", many)), due)
            for word in ("level", "meek", "proud"):
                self.same(over_pairs(known(word, many)), ())


if __name__ == "__main__":
    unittest.main()
