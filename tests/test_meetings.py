"""[D3], [D4]: bowstands.meetings."""

import itertools
import random
import unittest

from bowstands.aparts import fault, is_safe
from bowstands.kinds import known
from bowstands.meetings import meeting_run
from bowstands.runs import behind, first_meeting, words
from bowstands.standings import start
from tests import explore, model
from tests.support import Case, all_of_two, many_manners, random_manners


class MeetingRuns(Case):
    def check(self, manners, one, other):
        """Goes through the run with the steps of the model."""
        run = meeting_run(manners, one, other)
        self.assertIsInstance(run, tuple)
        self.assertLessEqual(len(run), 900)
        standing = start(manners)
        for hand in run:
            self.assertIs(type(hand), int)
            told = model.step_of(manners, standing, hand)
            self.assertIsNotNone(told, (manners, run))
            standing = told[1]
        inside = explore.within(standing)
        self.assertTrue(one in inside and other in inside, (manners, run))
        self.same(behind(manners, start(manners), run), standing)
        self.assertIsNotNone(first_meeting(manners, start(manners), run))

    def check_all(self, manners):
        seen = set()
        for one, other in itertools.permutations(range(len(manners[0])), 2):
            found = fault(manners, one, other)
            if found is None:
                self.same(meeting_run(manners, one, other), None)
            else:
                self.check(manners, one, other)
            seen.add(found and found[0])
        return seen

    def test_two(self):
        for manners in all_of_two():
            self.check_all(manners)

    def test_each_kind_by_each_number(self):
        dice = random.Random(139)
        for many in (3, 4, 5, 6):
            seen = set()
            for _ in range(40):
                seen |= self.check_all(random_manners(dice, many))
                seen |= self.check_all(random_manners(dice, many, ("stand", "bow", "even", "even", "slip")))
            self.assertEqual(seen, {None, "pass", "slip", "behind", "early", "ahead"})

    def test_safe(self):
        for word in ("ranked", "level", "meek", "proud"):
            for many in (2, 4, 6):
                self.same(meeting_run(known(word, many), 0, many - 1), None)

    def test_early_both(self):
        """Each of both is early: each hands back what it was handed."""
        for early in ((0,), (1,), (0, 1)):
            manners = (known("level", 4)[0], known("level", 4)[1], early)
            self.check_all(manners)

    def test_keeps(self):
        for manners in many_manners(each=3, seed=149):
            for one, other in itertools.permutations(range(len(manners[0])), 2):
                self.keeps(meeting_run, manners, one, other)


class NeverMeet(Case):
    def test_runs_by_safe_manners(self):
        """Runs of many kinds by safe manners: no two are within together."""
        dice = random.Random(151)
        for _ in range(60):
            manners = random_manners(dice, dice.randrange(2, 7), ("stand", "bow", "even"))[:2] + ((),)
            self.same(is_safe(manners), True)
            run = model.random_run(dice, manners, start(manners), 250)
            self.same(first_meeting(manners, start(manners), run), None, manners)

    def test_runs_that_go_in(self):
        dice = random.Random(157)
        for word in ("ranked", "level"):
            for many in (2, 3, 4, 5, 6):
                manners = known(word, many)
                run = model.random_run(dice, manners, start(manners), 600)
                if many == 2 or word == "ranked":
                    self.assertGreater(words(manners, start(manners), run).count("enter"), 5)
                self.same(first_meeting(manners, start(manners), run), None)

    def test_only_those_with_a_fault(self):
        """In runs by any manners only such two meet as have a fault."""
        dice = random.Random(163)
        met = 0
        for _ in range(80):
            manners = random_manners(dice, dice.randrange(3, 7), ("stand", "bow", "even", "slip"))
            standing = start(manners)
            for hand in model.random_run(dice, manners, standing, 150):
                standing = model.step_of(manners, standing, hand)[1]
                for one, other in itertools.combinations(explore.within(standing), 2):
                    met += 1
                    self.assertIsNotNone(fault(manners, one, other))
        self.assertGreater(met, 20)


if __name__ == "__main__":
    unittest.main()
