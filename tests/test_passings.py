"""[H4], [H5]: bowstands.passings."""

import random
import unittest

from bowstands.errors import BadRun
from bowstands.keepouts import most_passed
from bowstands.kinds import known
from bowstands.manners import renamed
from bowstands.passings import passed
from bowstands.runs import entries
from bowstands.standings import start
from tests import loopmodel, model
from tests.support import MIXED, TWO, Case, all_of_two, many_manners, random_manners
from tests.test_stalls import ranked_but, safe

AHEAD = (1, 1, 1, 1, 2, 2, 2, 2, 2, 0, 0, 1, 1, 2, 2, 2, 2, 2, 2, 0, 2, 2, 2, 0, 0)


def due_numbers(manners, run, hand):
    """What is due of passed, by the steps of the model."""
    steps = [step for step, _ in loopmodel.gone(manners, start(manners), run)]
    found = []
    for place, (mover, step) in enumerate(zip(run, steps)):
        if mover == hand and step == "enter":
            raising = max(at for at in range(place) if run[at] == hand and steps[at] == "raise")
            between = range(raising, place)
            found.append(sum(run[at] != hand and steps[at] == "enter" for at in between))
    return tuple(found)


def most_by_all(manners, hand):
    """How often hand is passed at most, by going through all standings with the number so far."""
    seen = set()
    best = 0
    todo = [(loopmodel.first(manners), 0)]
    while todo:
        pair = todo.pop()
        if pair in seen:
            continue
        seen.add(pair)
        standing, number = pair
        for mover in range(len(manners[0])):
            made = model.step_of(manners, standing, mover)
            if made is None:
                continue
            step, behind = made
            if mover == hand and step == "enter":
                best = max(best, number)
            is_out = model.flag_of(manners, behind, hand) == "down" or behind[0][hand] == model.IN
            todo.append((behind, 0 if is_out else number + (mover != hand and step == "enter")))
    return best


class Passed(Case):
    def test_many(self):
        dice = random.Random(509)
        for manners in many_manners(each=20, seed=509):
            run = model.random_run(dice, manners, start(manners), 120)
            for hand in range(len(manners[0])):
                told = passed(manners, run, hand)
                self.same(told, due_numbers(manners, run, hand), (manners, run))
                self.same(len(told), entries(manners, start(manners), run).count(hand))

    def test_that_go_in(self):
        """Long runs by manners that are never stuck, and such as can get stuck: never more than most_passed tells."""
        dice = random.Random(521)
        seen = set()
        for many in (2, 3, 4, 5, 6):
            for _ in range(8):
                manners = ranked_but(dice, many, dice.randrange(4)) if dice.random() < 0.6 else safe(dice, many)
                run = model.random_run(dice, manners, start(manners), 500)
                for hand in range(many):
                    told = passed(manners, run, hand)
                    self.same(told, due_numbers(manners, run, hand))
                    self.assertLessEqual(max(told, default=0), most_passed(manners, hand))
                    seen |= set(told)
        self.assertTrue(seen >= {0, 1, 2, 3}, seen)

    def test_none(self):
        for run in ((), (0,), (0, 0, 0), (1, 1, 1, 1, 1)):
            self.same(passed(TWO, run, 0), ())
        self.same(passed(TWO, (0, 0, 0, 0), 0), (0,))
        self.same(passed(TWO, (0, 0, 0, 0, 0) * 2, 0), (0, 0))

    def test_as_often_as_can_be(self):
        self.same([passed(MIXED, AHEAD, hand) for hand in range(3)], [(3,), (0,), (1, 0)])
        self.same(most_passed(MIXED, 0), 3)
        self.same(passed(TWO, (1, 1, 1, 0, 0, 0, 1, 1, 1, 1, 1, 0), 0), (1,))
        # By ranked manners: all that look at a hand first have looked while it rested.
        self.same(passed(known("ranked", 3), (1, 1, 1, 0, 0, 1, 1, 0, 0), 0), (1,))
        four = known("proud", 4)
        for hand, run in ((0, (3, 3, 3, 0, 0, 3, 3, 3, 0, 0, 0)), (1, (0, 0, 0, 1, 1, 0, 0, 0, 1, 1, 1))):
            self.same(passed(four, run, hand), (1,))

    def test_from_the_last_raising_on(self):
        """What came ahead of the last raising does not count, also if the hand had raised its flag before."""
        two = known("ranked", 2)
        # 1 raises, sees 0's flag, lowers, waits while 0 goes in, and raises again.
        run = (1, 1, 0, 0, 1, 1, 0, 0, 1, 1, 1)
        self.same(entries(two, start(two), run), (0, 1))
        self.same(passed(two, run, 1), (0,))
        # 0 is in ahead of the raising of 1, and leaves behind it.
        bows = ((("-", "even", "stand"), ("even", "-", "stand"), ("bow", "bow", "-")), MIXED[1], ())
        run = (0, 0, 0, 0, 0, 1, 1, 1, 0, 1, 1)
        self.same(passed(bows, run, 1), (0,))

    def test_raising_anew(self):
        """One that slips raises anew: it is counted from there, if the step is "raise"."""
        slips = (("-", "slip", "stand"), ("stand", "-", "stand"), ("stand", "stand", "-"))
        manners = (slips, MIXED[1][:0] + ((1, 2), (0, 2), (0, 1)), ())
        run = (1, 1, 0, 0, 0, 0, 1, 1, 1, 0, 0, 0)
        self.same(entries(manners, start(manners), run), (1, 0))
        self.same(passed(manners, run, 0), (0,))
        # The last in its order: it goes in by the step "enter", and is counted from its first raising.
        two = ((("-", "slip"), ("stand", "-")), ((1,), (0,)), ())
        run = (1, 1, 0, 0, 0, 0, 1, 1, 0, 0)
        self.same(entries(two, start(two), run), (1, 0))
        self.same(passed(two, run, 0), (1,))

    def test_bad_run(self):
        self.fails(BadRun(7), passed, TWO, (0, 0, 0, 0, 1, 1, 1, 1), 0)
        self.fails(BadRun(7), passed, TWO, (0, 0, 0, 0, 1, 1, 1, 1, 0), 1)
        dice = random.Random(523)
        found = 0
        for manners in many_manners(each=25, seed=523):
            run = model.random_run(dice, manners, start(manners), 30)
            here = ([start(manners)] + [told[1] for told in loopmodel.gone(manners, start(manners), run)])[-1]
            for hand in range(len(manners[0])):
                if model.step_of(manners, here, hand) is None:
                    found += 1
                    self.fails(BadRun(len(run)), passed, manners, run + (hand, 0), dice.randrange(len(manners[0])))
        self.assertGreater(found, 30)

    def test_by_all(self):
        """Never more often than most_passed tells, in all runs; and mostly as often."""
        dice = random.Random(541)
        as_often = 0
        for manners in [manners for manners in all_of_two() if manners[2] == ()]:
            if "pass" in str(manners) or "slip" in str(manners):
                continue
            for hand in (0, 1):
                self.assertLessEqual(most_by_all(manners, hand), most_passed(manners, hand))
        for _ in range(12):
            manners = ranked_but(dice, 3, dice.randrange(4)) if dice.random() < 0.5 else safe(dice, 3)
            hand = dice.randrange(3)
            told = most_by_all(manners, hand)
            self.assertLessEqual(told, most_passed(manners, hand), (manners, hand))
            as_often += told == most_passed(manners, hand)
        self.assertGreater(as_often, 6)

    def test_renamed(self):
        dice = random.Random(547)
        for many in (3, 4, 5):
            for _ in range(5):
                manners = random_manners(dice, many)
                row = tuple(dice.sample(range(many), many))
                run = model.random_run(dice, manners, start(manners), 100)
                if "even" in str(manners):
                    # The tokens are with others at the beginning then.
                    continue
                other = tuple(row[hand] for hand in run)
                for hand in range(many):
                    self.same(passed(renamed(manners, row), other, row[hand]), passed(manners, run, hand))

    def test_keeps(self):
        for hand in range(3):
            self.keeps(passed, MIXED, AHEAD, hand)


if __name__ == "__main__":
    unittest.main()
