"""[M2], [M5]: bowstands.drops."""

import random
import unittest

from bowstands.aparts import fault, is_safe
from bowstands.bounds import MAX_MOVES
from bowstands.drops import drop_behind, drop_meeting, dropped
from bowstands.errors import BadRun, Unfit
from bowstands.homes import home_bound, home_run
from bowstands.keepouts import most_passed
from bowstands.runs import behind
from bowstands.stalls import is_never_stuck
from bowstands.standings import flag, standing_error, start
from bowstands.steps import next_step
from tests import dropmodel, explore, loopmodel, model
from tests.support import MIXED, TWO, Case, all_of_two, many_manners, random_manners
from tests.test_stalls import ranked_but, safe

BLIND = ((("-", "pass"), ("stand", "-")), ((1,), (0,)), ())
ONE_IN = ((("in", 0), ("hand", 0)), ((0, 1, 1),))


def hands_of(manners):
    return range(len(manners[0]))


class Dropped(Case):
    def test_each_place(self):
        """Wherever the hand is; all else stays as it was."""
        for manners in all_of_two()[::3]:
            for standing in model.all_standings(manners):
                for hand in (0, 1):
                    self.check(manners, standing, hand)

    def test_many(self):
        dice = random.Random(1501)
        for manners in many_manners(each=15, seed=1501)[68:]:
            standing = model.random_standing(dice, manners)
            for hand in hands_of(manners):
                self.check(manners, standing, hand)

    def check(self, manners, standing, hand):
        if standing[0][hand] == ("rest", 0):
            self.fails(Unfit(), dropped, manners, standing, hand)
            return
        there = dropped(manners, standing, hand)
        places = list(standing[0])
        places[hand] = ("rest", 0)
        self.same(there, (tuple(places), standing[1]))
        self.same(standing_error(manners, there), None)
        self.same(flag(manners, there, hand), "down")
        for other in hands_of(manners):
            if other != hand:
                self.same(flag(manners, there, other), flag(manners, standing, other))

    def test_barred_ones(self):
        """Who is barred can give up."""
        waits = ((("in", 0), ("look", 0)), ((0, 1, 0),))
        self.same(next_step(TWO, waits, 1), None)
        self.same(dropped(TWO, waits, 1), ((("in", 0), ("rest", 0)), ((0, 1, 0),)))

    def test_kept(self):
        self.keeps(dropped, TWO, ONE_IN, 0)
        self.keeps(drop_behind, TWO, ONE_IN, ((0, "drop"), (1, "go")))
        self.keeps(drop_meeting, TWO, ONE_IN, ((0, "drop"), (1, "go")))


class BrokenRuns(Case):
    def test_gone_through(self):
        dice = random.Random(1511)
        for manners in many_manners(each=15, seed=1511):
            for standing in (start(manners), model.random_standing(dice, manners)):
                run = dropmodel.random_run(dice, manners, standing, 60)
                told = [standing] + [there for _, there in dropmodel.gone(manners, standing, run)]
                self.assertEqual(len(told), len(run) + 1)
                self.same(drop_behind(manners, standing, run), told[-1])
                for number in range(0, len(run), 13):
                    self.same(drop_behind(manners, standing, run[:number]), told[number])
                both = [number for number, now in enumerate(told) if len(explore.within(now)) > 1]
                self.same(drop_meeting(manners, standing, run), both[0] if both else None)

    def test_bad_runs(self):
        """Each kind of wrong pair: who is barred cannot go, who rests cannot give up."""
        dice = random.Random(1523)
        seen = set()
        for manners in many_manners(each=25, seed=1523):
            run = dropmodel.random_run(dice, manners, start(manners), dice.randrange(40))
            standing = drop_behind(manners, start(manners), run)
            for hand in hands_of(manners):
                for word in ("go", "drop"):
                    if dropmodel.done(manners, standing, (hand, word)) is None:
                        seen.add(word)
                        for more in ((), ((hand, "drop"),), ((hand, "go"),) * 3):
                            self.is_bad(manners, run + ((hand, word),) + more, len(run))
        self.assertEqual(seen, {"go", "drop"})

    def is_bad(self, manners, run, place):
        self.fails(BadRun(place), drop_behind, manners, start(manners), run)
        self.fails(BadRun(place), drop_meeting, manners, start(manners), run)

    def test_bad_behind_a_meeting(self):
        run = tuple((hand, "go") for hand in (1, 1, 1, 0, 0, 0))
        self.same(drop_meeting(BLIND, start(BLIND), run), 6)
        self.same(drop_meeting(BLIND, start(BLIND), run + ((1, "drop"),)), 6)
        self.is_bad(BLIND, run + ((1, "drop"), (1, "drop")), 7)
        self.same(drop_meeting(BLIND, ((("in", 0), ("in", 0)), ()), ((0, "drop"),)), 0)
        self.same(drop_meeting(BLIND, start(BLIND), run[:5] + ((1, "drop"), (0, "go"))), None)

    def test_just_so_long(self):
        lap = ((0, "go"), (0, "go"), (0, "drop"))
        run = lap * 300
        self.assertEqual(len(run), MAX_MOVES)
        self.same(drop_behind(TWO, start(TWO), run), start(TWO))
        self.same(drop_meeting(TWO, start(TWO), run), None)
        self.same(drop_behind(TWO, start(TWO), run + ((0, "go"),))[0], (("wish", 0), ("rest", 0)))
        self.is_bad(TWO, run[:-1] + ((1, "drop"),), 899)
        self.same(drop_behind(TWO, ONE_IN, ()), ONE_IN)
        self.same(drop_meeting(TWO, ONE_IN, ()), None)

    def test_without_drop(self):
        """A broken run without "drop" is a run."""
        dice = random.Random(1531)
        for manners in many_manners(each=8, seed=1531):
            run = model.random_run(dice, manners, start(manners), 50)
            self.same(drop_behind(manners, start(manners), tuple((hand, "go") for hand in run)),
                      behind(manners, start(manners), run))


class WhatHolds(Case):
    def test_main_8(self):
        """By steps and givings up two hands meet exactly if fault tells one."""
        dice = random.Random(1543)
        found = all_of_two() + [random_manners(dice, 3) for _ in range(12)] + [safe(dice, 3) for _ in range(8)]
        for manners in found:
            met = explore.meetings(dropmodel.reached(manners))
            for one in hands_of(manners):
                for other in range(one):
                    self.same((other, one) in met, fault(manners, one, other) is not None, manners)

    def test_main_9_home(self):
        """Behind broken runs, by safe manners that are never stuck, all come home within home_bound steps."""
        dice = random.Random(1549)
        for manners in [TWO, MIXED] + [ranked_but(dice, many, dice.randrange(3)) for many in (3, 4, 5, 6) * 6]:
            if not is_safe(manners) or not is_never_stuck(manners):
                continue
            for _ in range(4):
                run = dropmodel.random_run(dice, manners, start(manners), dice.randrange(90))
                standing = drop_behind(manners, start(manners), run)
                picks = tuple(dice.randrange(6) for _ in range(dice.randrange(1, 30)))
                home = home_run(manners, standing, picks)
                self.assertLessEqual(len(home), home_bound(manners))
                self.same(behind(manners, standing, home)[0], (("rest", 0),) * len(manners[0]))

    def test_passed(self):
        """By safe manners no hand is passed more often than most_passed tells, from its last raising on."""
        dice = random.Random(1553)
        for _ in range(50):
            manners = safe(dice, dice.randrange(2, 5))
            run = dropmodel.random_run(dice, manners, start(manners), 120, 0.06)
            steps = [word for word, _ in dropmodel.gone(manners, loopmodel.first(manners), run)]
            for hand in hands_of(manners):
                number = None
                for (mover, _), step in zip(run, steps):
                    if mover == hand and step in ("raise", "drop", "enter"):
                        if step == "enter":
                            self.assertLessEqual(number, most_passed(manners, hand))
                        number = 0 if step == "raise" else None
                    elif step == "enter" and number is not None:
                        number += 1


if __name__ == "__main__":
    unittest.main()
