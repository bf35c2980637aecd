"""[G5] to [G7]: bowstands.changes."""

import itertools
import random
import unittest

from bowstands.changes import changed, fewest_changes
from bowstands.errors import Unfit
from bowstands.kinds import known
from bowstands.manners import manners_error, renamed
from bowstands.orderings import hurdle
from tests.support import Case, random_manners
from tests.tables import TREATS, all_tables, free_table, no_tables, some_tables, table_of
from tests.test_orderings import due_hurdle


def differing(one, other):
    """The number of pairs of hands in which both tables differ."""
    pairs = itertools.combinations(range(len(one)), 2)
    return sum((one[i][j], one[j][i]) != (other[i][j], other[j][i]) for i, j in pairs)


def distances(many):
    """A dict: the words of the pairs of each table to the least number of changes, by going through all tables."""
    pairs = many * (many - 1) // 2
    found = {treats: 0 for treats in itertools.product(TREATS, repeat=pairs) if not due_hurdle(table_of(many, treats))}
    edge = list(found)
    while edge:
        further = []
        for treats in edge:
            for place in range(pairs):
                for words in TREATS:
                    other = treats[:place] + (words,) + treats[place + 1:]
                    if other not in found:
                        found[other] = found[treats] + 1
                        further.append(other)
        edge = further
    return found


def four_numbers(table):
    """The sum of the four numbers that [G7] tells, each by going through all choices."""
    hands = range(len(table))
    pairs = list(itertools.combinations(hands, 2))
    alike = sum(table[i][j] == table[j][i] != "even" for i, j in pairs)
    even = [(i, j) for i, j in pairs if table[i][j] == "even"]
    threes = [set(itertools.combinations(three, 2)) for three in itertools.combinations(hands, 3)]
    threes = [three for three in threes if three <= set(even)]
    for number in range(len(even) + 1):
        if any(all(three & set(out) for three in threes) for out in itertools.combinations(even, number)):
            break
    over = [(i, j) for i, j in itertools.permutations(hands, 2) if (table[i][j], table[j][i]) == ("stand", "bow")]
    backward = []
    for row in itertools.permutations(hands):
        places = {hand: place for place, hand in enumerate(row)}
        backward.append(sum(places[i] > places[j] for i, j in over))
    return alike + number + min(backward)


class Changes(Case):
    def check(self, table, due):
        self.same(fewest_changes(table), due, table)
        told = changed(table)
        self.same(manners_error((told, known("proud", len(table))[1], ())), None)
        self.same(due_hurdle(told), None, (table, told))
        self.same(hurdle(told), None)
        self.same(differing(table, told), due, (table, told))
        self.same(fewest_changes(told), 0)
        if due == 0:
            self.same(told, table)

    def test_all_of_few(self):
        for many in (2, 3):
            found = distances(many)
            self.assertEqual(len(found), len(all_tables(many)))
            for treats, due in found.items():
                self.check(table_of(many, treats), due)

    def test_four(self):
        """A sample of all tables of four hands, against going through all of them."""
        dice = random.Random(421)
        found = distances(4)
        self.assertEqual(len(found), 5 ** 6)
        for treats in dice.sample(sorted(found), 400):
            self.check(table_of(4, treats), found[treats])

    def test_five_and_six(self):
        dice = random.Random(431)
        for many in (5, 6):
            for table in some_tables(dice, many, 6):
                self.check(table, four_numbers(table))

    def test_rings(self):
        """Tables of over alone: as many as a row needs."""
        dice = random.Random(433)
        for many in (4, 5, 6):
            for _ in range(12):
                pairs = many * (many - 1) // 2
                table = table_of(many, [dice.choice(TREATS[:2]) for _ in range(pairs)])
                self.check(table, four_numbers(table))

    def test_level(self):
        """All even: two lots are left (Mantel 1907)."""
        for many, due in ((2, 0), (3, 1), (4, 2), (5, 4), (6, 6)):
            self.assertEqual(due, many * (many - 1) // 2 - many * many // 4)
            self.check(known("level", many)[0], due)

    def test_known(self):
        for many in range(2, 7):
            pairs = many * (many - 1) // 2
            self.check(known("proud", many)[0], pairs)
            self.check(known("meek", many)[0], pairs)
            self.check(known("ranked", many)[0], 0)

    def test_none(self):
        dice = random.Random(439)
        for many in (3, 4, 5, 6):
            for _ in range(10):
                self.check(free_table(dice, many), 0)

    def test_both_bow_and_both_stand_play_no_part(self):
        """In a ring of bows and over: the pair that both bow is changed, and that is enough."""
        table = table_of(3, [("bow", "bow"), ("bow", "stand"), ("stand", "bow")])
        self.check(table, 1)
        table = table_of(3, [("stand", "stand"), ("bow", "stand"), ("stand", "bow")])
        self.check(table, 1)
        table = table_of(3, [("stand", "bow"), ("bow", "stand"), ("stand", "bow")])
        self.check(table, 1)

    def test_unfit(self):
        for value in no_tables():
            self.fails(Unfit(), fewest_changes, value)
            self.fails(Unfit(), changed, value)

    def test_renamed(self):
        dice = random.Random(443)
        for many in (3, 4, 5, 6):
            for table in some_tables(dice, many, 4):
                row = tuple(dice.sample(range(many), many))
                other = renamed((table, random_manners(dice, many)[1], ()), row)[0]
                self.same(fewest_changes(other), fewest_changes(table))

    def test_keeps(self):
        dice = random.Random(449)
        for many in (2, 3, 5):
            for table in some_tables(dice, many, 2):
                self.keeps(fewest_changes, table)
                self.keeps(changed, table)


if __name__ == "__main__":
    unittest.main()
