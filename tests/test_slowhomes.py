"""[L7], [L8]: bowstands.slowhomes."""

import itertools
import random
import unittest

from bowstands.aparts import is_safe
from bowstands.bounds import MAX_SLOW
from bowstands.errors import TooMany, Unfit
from bowstands.homes import tries_most
from bowstands.kinds import known
from bowstands.manners import evens
from bowstands.rings import bow_ring
from bowstands.slowhomes import slow_bound, slow_home
from bowstands.slowruns import slow_behind
from bowstands.stalls import is_never_stuck
from bowstands.standings import start
from tests import model, slowmodel
from tests.support import MIXED, TWO, Case, all_of_two, many_manners, random_manners
from tests.test_slowstalls import LOOKS
from tests.test_stalls import ranked_but, safe

LATE = (MIXED[0], ((2, 1), (0, 2), (1, 0)), ())
BLIND = ((("-", "pass"), ("stand", "-")), ((1,), (0,)), ())
MEEK = known("meek", 2)

# Manners, a row and sights by which all six make 1833 steps from their wishes till all rest.
LONG = (
    (
        (
            ("-", "bow", "bow", "bow", "bow", "bow"), ("stand", "-", "bow", "bow", "bow", "bow"),
            ("bow", "bow", "-", "bow", "stand", "bow"), ("bow", "stand", "bow", "-", "bow", "bow"),
            ("bow", "stand", "bow", "bow", "-", "bow"), ("bow", "bow", "stand", "bow", "bow", "-"),
        ),
        ((2, 4, 1, 3, 5), (4, 2, 5, 0, 3), (4, 3, 1, 0, 5), (5, 0, 1, 4, 2), (0, 5, 2, 3, 1), (0, 4, 1, 2, 3)),
        (),
    ),
    (2, 3, 0, 1, 5, 4),
    tuple(int(sight) for sight in "11111111011011111111011101111110100011010110111111111111101"),
)


def hands_of(manners):
    return range(len(manners[0]))


def random_way(dice, many):
    """A row, and some sights."""
    return tuple(dice.sample(range(many), many)), tuple(dice.randrange(2) for _ in range(dice.choice((1, 2, 3, 7, 60))))


class SlowBounds(Case):
    def test_many(self):
        found = all_of_two() + many_manners(each=10, seed=1401)[68:]
        dice = random.Random(1409)
        found += [ranked_but(dice, many, dice.randrange(4)) for many in (3, 4, 5, 6) for _ in range(10)]
        seen = set()
        for manners in found:
            is_fit = is_safe(manners) and bow_ring(manners) is None
            seen.add(is_fit)
            if not is_fit:
                self.fails(Unfit(), slow_bound, manners)
                continue
            many = len(manners[0])
            due = 0
            for hand in range(many):
                due += tries_most(manners, hand) * (len(evens(manners, hand)) + many + 5)
            self.same(slow_bound(manners), due)
            self.assertLessEqual(due, 1082)
        self.assertEqual(seen, {True, False})

    def test_some(self):
        for manners, due in (
            (TWO, 16), (MIXED, 46), (LATE, 46), (known("ranked", 2), 28), (known("ranked", 3), 80),
            (known("proud", 2), 14), (known("level", 3), 30),
        ):
            self.same(slow_bound(manners), due)
        # 1, 3, 6, 12, 24, 48 tries of 11 steps each.
        self.same(slow_bound(known("ranked", 6)), (1 + 3 + 6 + 12 + 24 + 48) * 11)

    def test_unfit(self):
        for manners in (BLIND, MEEK, known("meek", 6), (TWO[0], TWO[1], (1,))):
            self.fails(Unfit(), slow_bound, manners)


class SlowHomes(Case):
    def test_all_ways_of_two(self):
        """From each slow standing of two even hands, also such as do not come of start."""
        for manners in (TWO, (TWO[0], TWO[1], (0,)), known("ranked", 2), BLIND):
            for standing in slowmodel.all_standings(manners):
                for row in ((0, 1), (1, 0)):
                    for sights in ((0,), (1,), (0, 1), (1, 0), (1, 1, 0)):
                        due = slowmodel.home(manners, standing, row, sights, 100)
                        self.assertIsNotNone(due)
                        self.same(slow_home(manners, standing, row, sights), due, (manners, standing, row, sights))

    def test_any_manners(self):
        dice = random.Random(1423)
        seen = set()
        for manners in many_manners(each=25, seed=1423):
            for _ in range(2):
                standing = slowmodel.random_standing(dice, manners)
                row, sights = random_way(dice, len(manners[0]))
                due = slowmodel.home(manners, standing, row, sights, MAX_SLOW)
                seen.add(due is None)
                if due is None:
                    self.fails(TooMany(MAX_SLOW), slow_home, manners, standing, row, sights)
                else:
                    self.same(slow_home(manners, standing, row, sights), due)
        self.assertEqual(seen, {True, False})

    def test_main_7(self):
        """By safe manners that are never stuck all come home within slow_bound steps; who is due goes in once."""
        dice = random.Random(1427)
        found = [manners for manners in all_of_two() if is_safe(manners) and is_never_stuck(manners)]
        for many in (3, 4, 5, 6):
            for _ in range(12):
                manners = ranked_but(dice, many, dice.randrange(3))
                if is_never_stuck(manners):
                    found.append(manners)
        for manners in found:
            for _ in range(4):
                begun = slowmodel.random_run(dice, manners, start(manners), dice.randrange(80))
                standing = slow_behind(manners, start(manners), begun)
                row, sights = random_way(dice, len(manners[0]))
                self.check_home(manners, standing, slow_home(manners, standing, row, sights))

    def check_home(self, manners, standing, run):
        there = slow_behind(manners, standing, run)
        self.same(there[0], (model.REST,) * len(there[0]))
        self.assertLessEqual(len(run), slow_bound(manners))
        for hand, (word, _) in enumerate(standing[0]):
            steps = [step for mover, step in run if mover == hand]
            self.assertEqual(steps.count("enter"), 0 if word in ("rest", "in", "empty") else 1)
            self.assertEqual(steps == [], word == "rest")

    def test_nobody_can(self):
        """The end comes where all that do not rest wait; a hand whose flag is changing does not."""
        proud = known("proud", 2)
        both = ((("look", 0), ("look", 0)), ())
        for row, sights in (((0, 1), (0,)), ((1, 0), (1, 0))):
            self.same(slow_home(proud, both, row, sights), ())
            self.same(slow_home(proud, start(proud), row, sights), ())
            self.same(slow_home(proud, ((("look", 0), ("rest", 0)), ()), row, sights)[0], (0, "enter"))
        self.same(slow_home(proud, ((("look", 0), ("rise", 0)), ()), (0, 1), (1,)), ((1, "raised"),))
        self.same(slow_home(proud, ((("look", 0), ("rise", 0)), ()), (0, 1), (0,))[0], (0, "enter"))

    def test_sights_go_on_over_all_hands(self):
        """One number counts all turns with two words, of whatever hand, also where "wait" is taken."""
        third = (
            (("-", "stand", "stand"), ("stand", "-", "stand"), ("stand", "stand", "-")), ((2, 1), (2, 0), (0, 1)), (),
        )
        standing = ((("look", 0), ("look", 0), ("rise", 0)), ())
        for sights, first in (
            ((1, 0), ((1, "look"), (2, "raised"))), ((0, 1), ((0, "look"), (2, "raised"))),
            ((1, 1), ((2, "raised"),)), ((0, 0), ((0, "look"), (1, "look"), (2, "raised"))),
        ):
            told = slow_home(third, standing, (0, 1, 2), sights)
            self.same(told[:len(first)], first)
            self.same(told, slowmodel.home(third, standing, (0, 1, 2), sights, 100))

    def test_just_so_many(self):
        """The last 1500 steps of a long way are one; the last 1501 are too many."""
        manners, row, sights = LONG
        way = slowmodel.way_home(manners, ((("wish", 0),) * 6, ()), row, sights, 2000)
        self.assertEqual(len(way), 1833)
        for number in (1499, 1500, 1501, 1502):
            _, standing, turn, forks = way[-number]
            there = turn % 6
            seen = forks % len(sights)
            told = (manners, standing, row[there:] + row[:there], sights[seen:] + sights[:seen])
            if number > MAX_SLOW:
                self.fails(TooMany(MAX_SLOW), slow_home, *told)
            else:
                self.same(slow_home(*told), tuple(step[0] for step in way[-number:]))

    def test_for_ever(self):
        """Two meek hands bow to one another again and again."""
        there = slow_behind(MEEK, start(MEEK), LOOKS)
        for row in ((0, 1), (1, 0)):
            for sights in ((0,), (1,), (0, 1)):
                self.fails(TooMany(MAX_SLOW), slow_home, MEEK, there, row, sights)

    def test_kept(self):
        turning = ((("rise", 0), ("look", 0)), ((0, 1, 1),))
        self.keeps(slow_home, TWO, turning, (1, 0), (0, 1, 1))
        self.keeps(slow_bound, MIXED)
        for row in itertools.permutations(range(3)):
            self.keeps(slow_home, MIXED, slowmodel.random_standing(random.Random(7), MIXED), row, (1, 0))

    def test_safe_but_stuck(self):
        """From any standing, by safe manners that may get stuck."""
        dice = random.Random(1429)
        for _ in range(60):
            manners = safe(dice, dice.randrange(2, 6))
            standing = slowmodel.random_standing(dice, manners)
            row, sights = random_way(dice, len(manners[0]))
            due = slowmodel.home(manners, standing, row, sights, MAX_SLOW)
            if due is None:
                self.fails(TooMany(MAX_SLOW), slow_home, manners, standing, row, sights)
            else:
                self.same(slow_home(manners, standing, row, sights), due)


if __name__ == "__main__":
    unittest.main()
