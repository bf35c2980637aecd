"""[I4] to [I9]: bowstands.looks."""

import random
import unittest

from bowstands.aparts import fault, is_safe
from bowstands.bounds import MAX_COME
from bowstands.errors import TooMany, Unfit
from bowstands.homes import home_bound
from bowstands.keepouts import can_be_kept_out, most_passed
from bowstands.kinds import known
from bowstands.looks import kept_by_all, longest_by_all, meets_by_all, passed_by_all, stuck_by_all
from bowstands.manners import renamed
from bowstands.stalls import is_never_stuck
from bowstands.standings import start
from tests import explore, lookmodel, model
from tests.counts import BEYOND, BEYOND_HOME, JUST, JUST_HOME, JUST_SLIPS
from tests.support import MIXED, TWO, Case, all_of_two, random_manners
from tests.test_alls import renamed_standing
from tests.test_stalls import ranked_but, safe

LATE = (MIXED[0], ((2, 1), (0, 2), (1, 0)), ())
BLIND = ((("-", "pass"), ("stand", "-")), ((1,), (0,)), ())
SLIPS = ((("-", "slip"), ("stand", "-")), ((1,), (0,)), ())
MEEK = known("meek", 2)
TOO_MANY = TooMany(MAX_COME)


def hands_of(manners):
    return range(len(manners[0]))


def some(seed, each=14):
    """All manners of two hands, and of three hands some of any words, and some safe ones."""
    dice = random.Random(seed)
    found = all_of_two()
    for _ in range(each):
        found += [random_manners(dice, 3), safe(dice, 3), ranked_but(dice, 3, dice.randrange(4))]
    return found


class ByAll(Case):
    def check(self, manners):
        """Each answer against one told another way, and against what the rules tell."""
        graph = explore.reached(manners)
        if len(graph) > MAX_COME:
            self.check_too_many(manners)
            return
        met = explore.meetings(graph)
        for one in hands_of(manners):
            for other in hands_of(manners):
                if one != other:
                    told = meets_by_all(manners, one, other)
                    self.same(told, (min(one, other), max(one, other)) in met, manners)
                    self.same(told, fault(manners, one, other) is not None)
        self.same(stuck_by_all(manners), explore.can_stall(graph), manners)
        for hand in hands_of(manners):
            self.same(kept_by_all(manners, hand), explore.can_keep_out(graph, hand), (manners, hand))
            self.check_passed(graph, manners, hand)
        if is_safe(manners):
            self.check_safe(manners)

    def check_passed(self, graph, manners, hand):
        if "slip" in manners[0][hand]:
            self.fails(Unfit(), passed_by_all, manners, hand)
            return
        told = passed_by_all(manners, hand)
        self.same(told, lookmodel.most_passed(graph, manners, hand), (manners, hand))

    def check_safe(self, manners):
        self.same(stuck_by_all(manners), not is_never_stuck(manners))
        for hand in hands_of(manners):
            self.assertLessEqual(passed_by_all(manners, hand), most_passed(manners, hand))
            if is_never_stuck(manners):
                self.same(kept_by_all(manners, hand), can_be_kept_out(manners, hand))

    def check_too_many(self, manners):
        self.fails(TOO_MANY, meets_by_all, manners, 0, 1)
        self.fails(TOO_MANY, stuck_by_all, manners)
        for hand in hands_of(manners):
            self.fails(TOO_MANY, kept_by_all, manners, hand)
            self.fails(TOO_MANY, passed_by_all, manners, hand)

    def test_many(self):
        for manners in some(701):
            self.check(manners)

    def test_known(self):
        for word, many in (("ranked", 3), ("level", 3), ("meek", 3), ("proud", 3), ("proud", 4)):
            self.check(known(word, many))

    def test_too_many(self):
        for manners in (known("level", 4), known("meek", 5), known("ranked", 6), BEYOND):
            self.check_too_many(manners)

    def test_just_so_many(self):
        self.same(meets_by_all(JUST, 0, 1), fault(JUST, 0, 1) is not None)
        graph = explore.reached(JUST)
        self.same(stuck_by_all(JUST), explore.can_stall(graph))
        self.same(kept_by_all(JUST, 0), explore.can_keep_out(graph, 0))
        self.check_passed(graph, JUST, 0)
        self.fails(Unfit(), passed_by_all, JUST_SLIPS, 0)

    def test_not_safe(self):
        """Stalls and keepings of manners that have a fault, too."""
        jammed = (
            (("-", "stand", "pass"), ("stand", "-", "pass"), ("pass", "pass", "-")), ((1, 2), (0, 2), (0, 1)), (),
        )
        for manners, stuck, kept in (
            (BLIND, False, [False, True]),
            (SLIPS, False, [True, False]),
            (((("-", "slip"), ("slip", "-")), ((1,), (0,)), ()), False, [True, True]),
            (((("-", "pass"), ("pass", "-")), ((1,), (0,)), ()), False, [False, False]),
            (((("-", "pass"), ("bow", "-")), ((1,), (0,)), ()), False, [False, True]),
            (((("-", "even"), ("even", "-")), ((1,), (0,)), (0, 1)), False, [False, False]),
            (jammed, True, [True, True, False]),
        ):
            graph = explore.reached(manners)
            self.same([explore.can_stall(graph), stuck_by_all(manners)], [stuck, stuck], manners)
            for hand in hands_of(manners):
                told = [explore.can_keep_out(graph, hand), kept_by_all(manners, hand)]
                self.same(told, [kept[hand], kept[hand]], (manners, hand))

    def test_passed(self):
        for manners, due in (
            (TWO, [1, 1]), (known("ranked", 3), [1, 1, 0]), (BLIND, [0, None]), (LATE, [2, 2, 3]),
            (known("proud", 3), [1, 1, 0]),
        ):
            graph = explore.reached(manners)
            self.same([lookmodel.most_passed(graph, manners, hand) for hand in hands_of(manners)], due)
            self.same([passed_by_all(manners, hand) for hand in hands_of(manners)], due)

    def test_unfit_behind_too_many(self):
        """Who slips: TooMany comes ahead of Unfit."""
        table = tuple(
            tuple("-" if i == j else "slip" if i == 0 else "bow" for j in range(5)) for i in range(5)
        )
        manners = (table, known("meek", 5)[1], ())
        self.fails(TOO_MANY, passed_by_all, manners, 0)
        self.fails(Unfit(), passed_by_all, SLIPS, 0)
        self.same(passed_by_all(SLIPS, 1), 1)

    def test_renamed(self):
        dice = random.Random(709)
        for _ in range(12):
            manners = random_manners(dice, 3, ("stand", "bow", "even", "pass"))
            row = tuple(dice.sample(range(3), 3))
            other = renamed(manners, row)
            self.same(stuck_by_all(other), stuck_by_all(manners))
            for hand in range(3):
                self.same(kept_by_all(other, row[hand]), kept_by_all(manners, hand))
                self.same(passed_by_all(other, row[hand]), passed_by_all(manners, hand))
                self.same(
                    meets_by_all(other, row[hand], row[hand - 1]), meets_by_all(manners, hand, hand - 1 if hand else 2)
                )
            standing = model.random_standing(dice, manners)
            there = renamed_standing(manners, standing, row)
            self.same(longest_by_all(other, there), longest_by_all(manners, standing))

    def test_kept(self):
        self.keeps(meets_by_all, BLIND, 0, 1)
        self.keeps(stuck_by_all, LATE)
        self.keeps(kept_by_all, MIXED, 1)
        self.keeps(longest_by_all, TWO, start(TWO))
        self.keeps(passed_by_all, MIXED, 2)


class Longest(Case):
    def test_of_two(self):
        """From each standing there is, also such as do not come of start."""
        seen = set()
        for manners in all_of_two()[::3]:
            for standing in model.all_standings(manners):
                due = lookmodel.longest(manners, standing)
                self.same(longest_by_all(manners, standing), due, (manners, standing))
                seen.add(due)
        self.assertTrue({None, 0, 1, 2, 7, 10} <= seen)

    def test_many(self):
        dice = random.Random(719)
        for manners in some(719)[60:]:
            for _ in range(4):
                standing = model.random_standing(dice, manners)
                if lookmodel.come(manners, standing, MAX_COME) is None:
                    self.fails(TOO_MANY, longest_by_all, manners, standing)
                else:
                    self.same(longest_by_all(manners, standing), lookmodel.longest(manners, standing))

    def test_bound(self):
        """Of safe manners that are never stuck there is a greatest number, at most home_bound."""
        dice = random.Random(727)
        for manners in (TWO, MIXED, known("ranked", 3), (known("ranked", 3)[0], known("meek", 3)[1], (0, 2))):
            for standing in dice.sample(sorted(explore.reached(manners)), 30):
                self.assertLessEqual(longest_by_all(manners, standing), home_bound(manners))

    def test_just_so_many(self):
        self.assertEqual(len(lookmodel.come(*JUST_HOME, MAX_COME + 1)), MAX_COME)
        self.same(longest_by_all(*JUST_HOME), lookmodel.longest(*JUST_HOME))
        self.assertEqual(len(lookmodel.come(*BEYOND_HOME, MAX_COME + 1)), MAX_COME + 1)
        self.fails(TOO_MANY, longest_by_all, *BEYOND_HOME)

    def test_too_many_ahead_of_none(self):
        """Some of these bow for ever; but too many standings come."""
        wishes = ((("wish", 0),) * 6, ())
        self.fails(TOO_MANY, longest_by_all, known("meek", 6), wishes)
        self.fails(TOO_MANY, longest_by_all, known("ranked", 6), wishes)
        self.same(longest_by_all(known("meek", 6), ((("rest", 0),) * 6, ())), 0)
        # Too many come of start, but few without "begin".
        self.same(longest_by_all(known("ranked", 6), ((("rest", 0),) * 5 + (("in", 0),), ())), 1)


if __name__ == "__main__":
    unittest.main()
