"""[I2], [I3], [I9]: bowstands.alls."""

import random
import unittest

from bowstands.alls import nearest, standings_of
from bowstands.bounds import MAX_COME
from bowstands.errors import TooMany
from bowstands.kinds import known
from bowstands.manners import renamed
from bowstands.runs import behind
from bowstands.standings import standing_error, start
from tests import explore, lookmodel, model
from tests.counts import BEYOND, JUST
from tests.support import MIXED, TWO, Case, all_of_two, random_manners


def renamed_standing(manners, standing, row):
    """The standing in which the hand i is called row[i]."""
    places, tokens = standing
    new_places = tuple(places[row.index(hand)] for hand in range(len(places)))
    told = sorted((min(row[i], row[j]), max(row[i], row[j]), row[who]) for i, j, who in tokens)
    return (new_places, tuple(told))


class Alls(Case):
    def some(self):
        """All manners of two hands, and some of three."""
        dice = random.Random(601)
        return all_of_two() + [random_manners(dice, 3) for _ in range(25)]

    def test_standings(self):
        for manners in self.some():
            graph = explore.reached(manners)
            if len(graph) > MAX_COME:
                self.fails(TooMany(MAX_COME), standings_of, manners)
                self.fails(TooMany(MAX_COME), nearest, manners, start(manners))
                continue
            told = standings_of(manners)
            self.same(told, tuple(sorted(graph)))
            for standing in told[::7]:
                self.same(standing_error(manners, standing), None)

    def test_four_hands(self):
        for word, due in (("proud", 726), ("ranked", 3617)):
            manners = known(word, 4)
            graph = explore.reached(manners)
            self.assertEqual(len(graph), due)
            self.same(standings_of(manners), tuple(sorted(graph)))

    def test_just_so_many(self):
        self.assertEqual(len(explore.reached(JUST)), MAX_COME)
        self.assertEqual(len(standings_of(JUST)), MAX_COME)
        self.same(nearest(JUST, start(JUST)), ())
        self.assertEqual(len(explore.reached(BEYOND)), MAX_COME + 1)
        self.fails(TooMany(MAX_COME), standings_of, BEYOND)
        self.fails(TooMany(MAX_COME), nearest, BEYOND, start(BEYOND))

    def test_too_many(self):
        for word, many in (("level", 4), ("meek", 5), ("ranked", 6), ("proud", 6)):
            self.fails(TooMany(MAX_COME), standings_of, known(word, many))
            self.fails(TooMany(MAX_COME), nearest, known(word, many), start(known(word, many)))

    def test_nearest(self):
        dice = random.Random(607)
        for manners in self.some():
            graph = explore.reached(manners)
            if len(graph) > MAX_COME:
                continue
            away = lookmodel.distances(graph, start(manners))
            for standing in dice.sample(sorted(graph), min(len(graph), 12)):
                run = nearest(manners, standing)
                self.assertEqual(len(run), away[standing])
                self.assertLess(len(run), len(graph))
                self.same(behind(manners, start(manners), run), standing)

    def test_of_two_all(self):
        """Of all standings there are: a way to those that come, None of all others."""
        for manners in all_of_two()[::5]:
            away = lookmodel.distances(explore.reached(manners), start(manners))
            for standing in model.all_standings(manners):
                run = nearest(manners, standing)
                self.same(None if run is None else len(run), away.get(standing))

    def test_renamed(self):
        dice = random.Random(613)
        for _ in range(12):
            manners = random_manners(dice, 3, ("stand", "bow", "even"))
            row = tuple(dice.sample(range(3), 3))
            other = renamed(manners, row)
            there = {renamed_standing(manners, standing, row) for standing in standings_of(manners)}
            # The tokens may lie otherwise at the beginning: but each comes to lie with each of its two.
            self.same(standings_of(other), tuple(sorted(there)))
            standing = model.random_standing(dice, manners)
            told = nearest(other, renamed_standing(manners, standing, row))
            self.same(told is None, nearest(manners, standing) is None)

    def test_kept(self):
        self.keeps(standings_of, TWO)
        self.keeps(nearest, MIXED, (((("wish", 0),) + (("rest", 0),) * 2), start(MIXED)[1]))


if __name__ == "__main__":
    unittest.main()
