"""[E2], [E5]: bowstands.rings."""

import itertools
import random
import unittest

from bowstands.kinds import known
from bowstands.manners import renamed
from bowstands.rings import bow_ring, wait_rings
from tests.support import MIXED, TWO, Case, many_manners, random_manners

FOUND = many_manners(each=25, seed=167)


def all_rings(manners, words):
    """All tuples of hands, least hand first, each of which treats the next one by one of the words."""
    table = manners[0]
    found = []
    for size in range(2, len(table) + 1):
        for ring in itertools.permutations(range(len(table)), size):
            if ring[0] == min(ring) and all(table[i][j] in words for i, j in zip(ring, ring[1:] + ring[:1])):
                found.append(ring)
    return sorted(found)


def turned(ring):
    """The ring, its least hand first."""
    place = ring.index(min(ring))
    return ring[place:] + ring[:place]


class Rings(Case):
    def test_all(self):
        sizes = set()
        for manners in FOUND:
            bows = all_rings(manners, ("bow",))
            due = min(bows, key=lambda ring: (len(ring), ring)) if bows else None
            self.same(bow_ring(manners), due, manners)
            self.same(wait_rings(manners), tuple(all_rings(manners, ("stand", "even"))), manners)
            sizes |= {len(ring) for ring in bows[:1]}
        self.assertTrue(sizes >= {2, 3}, sizes)

    def test_sizes(self):
        """Rings of one way round, of each number of hands."""
        for many in range(3, 7):
            rows = [["-" if i == j else "stand" for j in range(many)] for i in range(many)]
            for hand in range(many):
                rows[hand][(hand + 1) % many] = "bow"
            manners = (tuple(map(tuple, rows)), known("proud", many)[1], ())
            self.same(bow_ring(manners), tuple(range(many)))
            backward = tuple((0,) + tuple(range(many - 1, 0, -1)))
            self.assertIn(backward, wait_rings(manners))
            self.assertNotIn(tuple(range(many)), wait_rings(manners))

    def test_least(self):
        """The fewest hands come first, then the least tuple."""
        bows = {(0, 1), (1, 2), (2, 0), (3, 4), (4, 3)}
        rows = [["-" if i == j else "bow" if (i, j) in bows else "stand" for j in range(5)] for i in range(5)]
        manners = (tuple(map(tuple, rows)), known("proud", 5)[1], ())
        self.same(bow_ring(manners), (3, 4))
        self.same(bow_ring(known("meek", 6)), (0, 1))
        both = {(0, 2), (2, 1), (1, 0), (1, 3), (3, 2)}
        rows = [["-" if i == j else "bow" if (i, j) in both else "stand" for j in range(4)] for i in range(4)]
        self.same(bow_ring((tuple(map(tuple, rows)), known("proud", 4)[1], ())), (0, 2, 1))

    def test_words(self):
        """Who slips or passes neither bows nor waits here; orders and early hands play no part."""
        for word in ("pass", "slip"):
            manners = ((("-", word), (word, "-")), ((1,), (0,)), ())
            self.same((bow_ring(manners), wait_rings(manners)), (None, ()))
        dice = random.Random(173)
        for manners in FOUND:
            other = random_manners(dice, len(manners[0]))
            self.same(wait_rings((manners[0], other[1], other[2])), wait_rings(manners))
            self.same(bow_ring((manners[0], other[1], other[2])), bow_ring(manners))

    def test_known(self):
        self.same(wait_rings(TWO), ((0, 1),))
        self.same(wait_rings(MIXED), ((0, 1, 2), (0, 2), (1, 2)))
        for many, number in ((2, 1), (3, 5), (4, 20), (5, 84), (6, 409)):
            self.same(len(wait_rings(known("level", many))), number)
            self.same(wait_rings(known("proud", many)), wait_rings(known("level", many)))
            self.same(wait_rings(known("ranked", many)), ())
            self.same(wait_rings(known("meek", many)), ())
            self.same(bow_ring(known("ranked", many)), None)

    def test_renamed(self):
        dice = random.Random(179)
        for manners in FOUND:
            many = len(manners[0])
            row = tuple(dice.sample(range(many), many))
            due = sorted(turned(tuple(row[hand] for hand in ring)) for ring in wait_rings(manners))
            self.same(wait_rings(renamed(manners, row)), tuple(due))
            bows = bow_ring(renamed(manners, row))
            self.same(bows and len(bows), bow_ring(manners) and len(bow_ring(manners)))

    def test_keeps(self):
        for manners in FOUND[::7]:
            self.keeps(bow_ring, manners)
            self.keeps(wait_rings, manners)


if __name__ == "__main__":
    unittest.main()
