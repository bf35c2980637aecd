"""[L4], [L5], [L8]: bowstands.slowruns."""

import random
import unittest

from bowstands.aparts import fault, is_safe
from bowstands.bounds import MAX_MOVES, MAX_SLOW
from bowstands.errors import BadRun
from bowstands.keepouts import most_passed
from bowstands.kinds import known
from bowstands.meetings import meeting_run
from bowstands.runs import behind, entries, first_meeting
from bowstands.slowruns import slow_behind, slow_entries, slow_meeting, slow_passed, slowed
from bowstands.standings import start
from tests import model, slowmodel
from tests.support import MIXED, TWO, Case, all_of_two, many_manners, random_manners
from tests.test_stalls import safe

MEEK = known("meek", 2)
BLIND = ((("-", "pass"), ("stand", "-")), ((1,), (0,)), ())
SLIPS = ((("-", "slip"), ("stand", "-")), ((1,), (0,)), ())

# Two even hands, each alone, and once more: 8 pairs each.
ROUND = tuple((0, word) for word in ("begin", "raise", "raised", "hand", "set", "enter", "leave", "left"))


def due_passed(manners, run, hand):
    """What is due of slow_passed."""
    found = []
    for place, pair in enumerate(run):
        if pair == (hand, "enter"):
            raising = max(at for at in range(place) if run[at] == (hand, "raised"))
            found.append(sum(mover != hand and word == "enter" for mover, word in run[raising:place]))
    return tuple(found)


class SlowRuns(Case):
    def some(self, seed, each=12):
        return [(dice_seed, manners) for dice_seed, manners in enumerate(many_manners(each=each, seed=seed))]

    def test_gone_through(self):
        for seed, manners in self.some(1201):
            dice = random.Random(seed)
            run = slowmodel.random_run(dice, manners, start(manners), 90)
            told = [start(manners)] + slowmodel.gone(manners, start(manners), run)
            self.same(slow_behind(manners, start(manners), run), told[-1])
            for place in range(0, len(run), 9):
                self.same(slow_behind(manners, told[place], run[place:]), told[-1])
            self.same(slow_entries(manners, start(manners), run), tuple(h for h, word in run if word == "enter"))
            both = [number for number, now in enumerate(told) if sum(place == model.IN for place in now[0]) > 1]
            self.same(slow_meeting(manners, start(manners), run), both[0] if both else None)
            for hand in range(len(manners[0])):
                self.same(slow_passed(manners, run, hand), due_passed(manners, run, hand))

    def test_from_any_standing(self):
        for seed, manners in self.some(1213, 6):
            dice = random.Random(seed)
            standing = slowmodel.random_standing(dice, manners)
            run = slowmodel.random_run(dice, manners, standing, 40)
            told = [standing] + slowmodel.gone(manners, standing, run)
            self.same(slow_behind(manners, standing, run), told[-1])
            both = [number for number, now in enumerate(told) if sum(place == model.IN for place in now[0]) > 1]
            self.same(slow_meeting(manners, standing, run), both[0] if both else None)

    def test_bad_runs(self):
        """BadRun with the first place that is wrong, from each of the four, whatever comes ahead of it or behind."""
        for seed, manners in self.some(1217):
            dice = random.Random(seed)
            many = len(manners[0])
            run = slowmodel.random_run(dice, manners, start(manners), 40)
            place = dice.randrange(len(run))
            now = ([start(manners)] + slowmodel.gone(manners, start(manners), run))[place]
            hand = dice.randrange(many)
            able = slowmodel.steps(manners, now, hand)
            for word in ("wait", "", "go", "Begin", "begin", "raise", "raised", "look", "enter", "left", "set", "see"):
                if word == "wait" or word not in able:
                    wrong = run[:place] + ((hand, word),) + run[place + dice.randrange(2):]
                    self.is_bad(manners, wrong, place)
                    self.is_bad(manners, wrong + ((hand, "wait"),), place)

    def is_bad(self, manners, run, place):
        for call in (slow_behind, slow_entries, slow_meeting):
            self.fails(BadRun(place), call, manners, start(manners), run)
        self.fails(BadRun(place), slow_passed, manners, run, 0)

    def test_bad_behind_a_meeting(self):
        run = tuple((hand, word) for hand in (1, 0) for word in ("begin", "raise", "raised", "enter"))
        self.same(slow_meeting(BLIND, start(BLIND), run), 8)
        self.same(slow_entries(BLIND, start(BLIND), run), (1, 0))
        self.is_bad(BLIND, run + ((0, "enter"),), 8)

    def test_empty(self):
        for manners in all_of_two()[::9]:
            self.same(slow_behind(manners, start(manners), ()), start(manners))
            self.same([slow_entries(manners, start(manners), ()), slow_passed(manners, (), 1)], [(), ()])
            self.same(slow_meeting(manners, start(manners), ()), None)
        both = ((("in", 0), ("in", 0)), ())
        self.same(slow_meeting(BLIND, both, ()), 0)
        self.same(slow_meeting(BLIND, both, ((0, "leave"),)), 0)
        self.same(slow_meeting(BLIND, ((("empty", 0), ("in", 0)), ()), ()), None)

    def test_just_so_long(self):
        run = ROUND * 187 + ROUND[:4]
        self.assertEqual(len(run), MAX_SLOW)
        self.same(slow_behind(TWO, start(TWO), run)[0], (("set", 0), ("rest", 0)))
        self.same(slow_entries(TWO, start(TWO), run), (0,) * 187)
        self.same(slow_passed(TWO, run, 0), (0,) * 187)
        self.same(slow_meeting(TWO, start(TWO), run), None)
        self.is_bad(TWO, run[:-1] + ((1, "enter"),), 1499)
        # Somewhat longer ones are gone through, too.
        self.same(slow_behind(TWO, start(TWO), run + ROUND[4:5])[0], (("look", 0), ("rest", 0)))

    def test_passed(self):
        """Only "raised" counts anew, and no "enter" out of again does."""
        again = ((1, "begin"), (1, "raise"), (1, "raised"), (0, "begin"), (0, "raise"), (0, "raised"), (0, "yield"))
        again += ((0, "lower"), (0, "lowered"), (1, "enter"), (1, "leave"), (1, "left"), (0, "see"), (0, "raise"))
        again += ((1, "begin"), (1, "raise"), (1, "raised"), (1, "enter"), (0, "enter"))
        self.same(slow_passed(SLIPS, again, 0), (2,))
        self.same(slow_passed(SLIPS, again, 1), (0, 0))
        # 0 is raising while 1 goes in: that is ahead of "raised".
        ahead = ((0, "begin"), (0, "raise"), (1, "begin"), (1, "raise"), (1, "raised"), (1, "enter"), (0, "raised"))
        ranked = known("ranked", 2)
        self.same(slow_passed(ranked, ahead + ((1, "leave"), (1, "left"), (0, "enter")), 0), (0,))
        # Behind "raised" it counts: 1 saw the flag of 0 down ahead of that.
        behind_it = tuple((hand, word) for hand, word in (
            (0, "begin"), (0, "raise"), (1, "begin"), (1, "raise"), (1, "raised"), (1, "hand"), (0, "raised"),
            (0, "hand"), (0, "set"), (1, "set"), (1, "enter"), (1, "leave"), (1, "left"), (0, "enter"),
        ))
        self.same([slow_passed(TWO, behind_it, hand) for hand in (0, 1)], [(1,), (0,)])

    def test_passed_at_most(self):
        """[L8]: by safe manners no item is greater than most_passed."""
        dice = random.Random(1223)
        seen = set()
        for _ in range(60):
            manners = safe(dice, dice.randrange(2, 5))
            run = slowmodel.random_run(dice, manners, start(manners), 150)
            for hand in range(len(manners[0])):
                most = most_passed(manners, hand)
                told = slow_passed(manners, run, hand)
                self.assertTrue(all(number <= most for number in told))
                seen |= set(told)
        self.assertTrue({0, 1} <= seen)

    def test_kept(self):
        run = ROUND[:6]
        self.keeps(slow_behind, TWO, start(TWO), run)
        self.keeps(slow_entries, TWO, start(TWO), run)
        self.keeps(slow_meeting, TWO, start(TWO), run)
        self.keeps(slow_passed, TWO, run, 0)
        self.keeps(slowed, TWO, (0, 0, 0, 0))


class Slowed(Case):
    def test_against_runs(self):
        dice = random.Random(1229)
        for manners in many_manners(each=15, seed=1229):
            run = model.random_run(dice, manners, start(manners), 80)
            told = slowed(manners, run)
            self.assertTrue(slowmodel.is_slow_run(manners, told))
            self.same(slow_behind(manners, start(manners), told), behind(manners, start(manners), run))
            self.same(slow_entries(manners, start(manners), told), entries(manners, start(manners), run))
            place = dice.randrange(len(run))
            self.same(told[:len(slowed(manners, run[:place]))], slowed(manners, run[:place]))
            self.check_words(manners, run, told)

    def check_words(self, manners, run, told):
        """The steps of run, in order, each change of a flag brought to its end at once."""
        standing = start(manners)
        rest = list(told)
        for hand in run:
            step, there = model.step_of(manners, standing, hand)
            is_anew = standing[0][hand][0] == "anew"
            first = "raise" if is_anew else step
            self.same(rest.pop(0), (hand, first))
            second = {"raise": "raised", "lower": "lowered", "leave": "left"}.get(first)
            if is_anew and step == "enter":
                second = "enter"
            if step == "hand" and there[0][hand] == ("look", 0):
                second = "set"
            if second is not None:
                self.same(rest.pop(0), (hand, second))
            standing = there
        self.same(rest, [])

    def test_bad_runs(self):
        dice = random.Random(1231)
        found = 0
        for manners in many_manners(each=30, seed=1231):
            run = model.random_run(dice, manners, start(manners), 25)
            standing = behind(manners, start(manners), run)
            for hand in range(len(manners[0])):
                if model.step_of(manners, standing, hand) is None:
                    found += 1
                    self.fails(BadRun(len(run)), slowed, manners, run + (hand,))
                    self.fails(BadRun(len(run)), slowed, manners, run + (hand, hand))
        self.assertGreater(found, 20)

    def test_meetings(self):
        """A run behind which both are within, slowed, is one again."""
        for manners in all_of_two() + [random_manners(random.Random(k), 3) for k in range(20)]:
            if fault(manners, 0, 1) is not None:
                run = meeting_run(manners, 0, 1)
                told = slow_meeting(manners, start(manners), slowed(manners, run))
                self.assertIsNotNone(told)
                self.assertIsNotNone(first_meeting(manners, start(manners), run))
            elif is_safe(manners):
                run = model.random_run(random.Random(5), manners, start(manners), 60)
                self.same(slow_meeting(manners, start(manners), slowed(manners, run)), None)

    def test_anew(self):
        run = (0, 0, 1, 1, 0, 0, 1, 1, 0, 0)
        words = "begin raise raised yield lower lowered see raise enter".split()
        told = slowed(SLIPS, run)
        self.same(tuple(word for hand, word in told if hand == 0), tuple(words))
        self.same(slow_behind(SLIPS, start(SLIPS), told), behind(SLIPS, start(SLIPS), run))

    def test_longest(self):
        run = (0,) * MAX_MOVES
        self.same(slowed(TWO, run), ROUND * 180)
        self.same(len(slowed(MEEK, run)), 1350)
        self.same(slowed(MIXED, ()), ())


if __name__ == "__main__":
    unittest.main()
