"""[C1] to [C3], [C5]: bowstands.runs."""

import random
import unittest

from bowstands.errors import BadRun
from bowstands.kinds import known
from bowstands.manners import evens
from bowstands.runs import behind, entries, first_meeting, words
from bowstands.standings import start
from bowstands.steps import movers, stepped
from tests import model
from tests.support import MIXED, TWO, Case, many_manners

ALL = (behind, words, entries, first_meeting)
BLIND = ((("-", "pass"), ("pass", "-")), ((1,), (0,)), ())


def gone(manners, standing, run):
    """The pairs (step, standing behind it), by the model."""
    told = []
    for hand in run:
        told.append(model.step_of(manners, standing, hand))
        standing = told[-1][1]
    return told


def meeting(standings):
    """The place of the first standing in which two or more are within."""
    for number, (places, _) in enumerate(standings):
        if [word for word, _ in places].count("in") > 1:
            return number
    return None


class Runs(Case):
    def compare(self, manners, standing, run):
        told = gone(manners, standing, run)
        standings = [standing] + [new for _, new in told]
        self.same(behind(manners, standing, run), standings[-1])
        self.same(words(manners, standing, run), tuple(step for step, _ in told))
        went_in = tuple(hand for hand, (step, _) in zip(run, told) if step == "enter")
        self.same(entries(manners, standing, run), went_in)
        self.same(first_meeting(manners, standing, run), meeting(standings))

    def test_from_anywhere(self):
        dice = random.Random(47)
        for manners in many_manners(each=30, seed=47):
            for length in (0, 1, 2, 7, 40):
                standing = model.random_standing(dice, manners)
                self.compare(manners, standing, model.random_run(dice, manners, standing, length))

    def test_from_start(self):
        dice = random.Random(53)
        for manners in many_manners(each=30, seed=53):
            self.compare(manners, start(manners), model.random_run(dice, manners, start(manners), 80))

    def test_no_step(self):
        dice = random.Random(59)
        for manners in many_manners(each=3):
            for standing in (start(manners), model.random_standing(dice, manners)):
                self.same(behind(manners, standing, ()), standing)
                self.same(words(manners, standing, ()), ())
                self.same(entries(manners, standing, ()), ())
                self.same(first_meeting(manners, standing, ()), meeting([standing]))

    def test_900(self):
        run = (0, 0, 0, 0, 0) * 180
        self.same(words(TWO, start(TWO), run), ("begin", "raise", "hand", "enter", "leave") * 180)
        self.same(entries(TWO, start(TWO), run), (0,) * 180)
        self.same(behind(TWO, start(TWO), run), ((("rest", 0), ("rest", 0)), ((0, 1, 1),)))
        self.same(first_meeting(TWO, start(TWO), run), None)
        dice = random.Random(61)
        for manners in (MIXED, known("ranked", 6), known("level", 6), BLIND, known("meek", 4)):
            run = model.random_run(dice, manners, start(manners), 900)
            self.compare(manners, start(manners), run)
        # Somewhat beyond the bound nothing is raised.
        self.same(entries(TWO, start(TWO), (0, 0, 0, 0, 0) * 190), (0,) * 190)

    def test_one_behind_another(self):
        dice = random.Random(67)
        for manners in many_manners(each=10, seed=67):
            standing = model.random_standing(dice, manners)
            both = model.random_run(dice, manners, standing, 30)
            cut = dice.randrange(len(both) + 1)
            run, more = both[:cut], both[cut:]
            middle = behind(manners, standing, run)
            self.same(behind(manners, standing, both), behind(manners, middle, more))
            for call in (words, entries):
                self.same(call(manners, standing, both), call(manners, standing, run) + call(manners, middle, more))

    def test_step_by_step(self):
        dice = random.Random(71)
        for manners in many_manners(each=10, seed=71):
            standing = start(manners)
            run = ()
            for _ in range(25):
                able = movers(manners, standing)
                if not able:
                    break
                run += (dice.choice(able),)
                standing = stepped(manners, standing, run[-1])
                self.same(behind(manners, start(manners), run), standing)


class Meetings(Case):
    def test_two_within_at_the_beginning(self):
        both = ((("in", 0), ("in", 0)), ((0, 1, 1),))
        for run in ((), (0,), (1, 1), (0, 0, 1, 1)):
            self.same(first_meeting(TWO, both, run), 0)
        three = ((("in", 0),) * 3, ())
        self.same(first_meeting(known("proud", 3), three, (0, 1, 2)), 0)
        self.same(first_meeting(known("proud", 3), ((("in", 0), ("rest", 0), ("in", 0)), ()), (0, 2)), 0)

    def test_one_within(self):
        self.same(first_meeting(TWO, ((("in", 0), ("rest", 0)), ((0, 1, 0),)), (0,)), None)

    def test_first_of_some(self):
        run = (0, 0, 0, 1, 1, 1, 1, 1, 1, 1, 0)
        self.same(first_meeting(BLIND, start(BLIND), run), 6)
        self.same(entries(BLIND, start(BLIND), run), (0, 1, 1))
        self.same(first_meeting(BLIND, start(BLIND), run[:5]), None)
        self.same(first_meeting(BLIND, start(BLIND), run[:6]), 6)

    def test_begins_within(self):
        """Who is within at the beginning did not go in by a step of the run."""
        one_in = ((("in", 0), ("look", 0)), ((0, 1, 0),))
        self.same(entries(TWO, one_in, (0, 1, 1)), (1,))


class Barred(Case):
    def test_place(self):
        stops = (0, 1, 0, 1, 0, 1, 0)
        for call in ALL:
            self.fails(BadRun(7), call, TWO, start(TWO), stops + (1,))
            self.fails(BadRun(7), call, TWO, start(TWO), stops + (1, 0, 1))
            self.fails(BadRun(0), call, TWO, behind(TWO, start(TWO), stops), (1,))
            self.fails(BadRun(0), call, TWO, behind(TWO, start(TWO), stops), (1, 1, 1))

    def test_whatever_came_ahead(self):
        """Also behind a meeting, and where two are within at the beginning."""
        manners = ((("-", "pass", "stand"), ("pass", "-", "stand"), ("stand", "stand", "-")), known("proud", 3)[1], ())
        run = (0, 0, 0, 0, 1, 1, 1, 1)
        self.same(first_meeting(manners, start(manners), run), 8)
        within = behind(manners, start(manners), run)
        self.same(first_meeting(manners, within, (2, 2)), 0)
        for call in ALL:
            self.fails(BadRun(10), call, manners, start(manners), run + (2, 2, 2))
            self.fails(BadRun(2), call, manners, within, (2, 2, 2, 0))

    def test_low_ones(self):
        meek = known("meek", 2)
        standing = ((("low", 0), ("look", 0)), ())
        for call in ALL:
            self.fails(BadRun(0), call, meek, standing, (0,))
            self.fails(BadRun(1), call, meek, standing, (1, 0))
        self.same(words(meek, standing, (1, 1, 0)), ("enter", "leave", "see"))

    def test_many(self):
        dice = random.Random(73)
        found = 0
        for manners in many_manners(each=30, seed=73):
            standing = model.random_standing(dice, manners)
            run = model.random_run(dice, manners, standing, 25)
            now = behind(manners, standing, run)
            for hand in range(len(manners[0])):
                if model.step_of(manners, now, hand) is None:
                    found += 1
                    for call in ALL:
                        self.fails(BadRun(len(run)), call, manners, standing, run + (hand,) * 2)
        self.assertGreater(found, 50)


class WhatHolds(Case):
    def test_ways_in(self):
        """1 + 1 + e + (n - 1) steps from rest into the room, if nobody is in the way."""
        for manners in many_manners(each=10, seed=79):
            many = len(manners[0])
            for hand in range(many):
                steps = 2 + len(evens(manners, hand)) + many - 1
                told = words(manners, start(manners), (hand,) * (steps + 1))
                self.same(entries(manners, start(manners), (hand,) * steps), (hand,))
                self.same(told[-2:], ("enter", "leave"))
                self.same(told.count("look"), many - 2)

    def test_in_turns(self):
        """Of each hand, "begin", "enter" and "leave" come in turns."""
        dice = random.Random(83)
        for manners in many_manners(each=10, seed=83):
            run = model.random_run(dice, manners, start(manners), 200)
            told = words(manners, start(manners), run)
            for hand in range(len(manners[0])):
                own = [step for one, step in zip(run, told) if one == hand and step in ("begin", "enter", "leave")]
                self.same(own, (["begin", "enter", "leave"] * 100)[:len(own)])

    def test_keeps(self):
        dice = random.Random(89)
        for manners in many_manners(each=3, seed=89):
            run = model.random_run(dice, manners, start(manners), 20)
            for call in ALL:
                self.keeps(call, manners, start(manners), run)


if __name__ == "__main__":
    unittest.main()
