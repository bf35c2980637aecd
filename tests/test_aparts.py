"""[D2], [D4]: bowstands.aparts."""

import itertools
import random
import unittest

from bowstands.aparts import fault, faults, is_safe
from bowstands.kinds import known
from bowstands.manners import renamed
from tests import explore
from tests.support import MIXED, TWO, Case, all_of_two, many_manners, random_manners

PLAIN = ("stand", "bow", "even")


def kinds_of(manners, a, b):
    """A dict: the word of each fault that a has by b, to the fault."""
    table, orders, early = manners
    found = {}
    is_behind = False
    for c in orders[a]:
        is_behind = is_behind or c == b
        if table[a][c] != "slip":
            continue
        if c == b:
            found["slip"] = ("slip", a, b)
        elif is_behind:
            found.setdefault("behind", ("behind", a, c))
        if table[a][b] == "even":
            found.setdefault("ahead", ("ahead", a, c))
    if table[a][b] == "pass":
        found["pass"] = ("pass", a, b)
    if table[a][b] == "even" and a in early:
        found["early"] = ("early", a)
    return found


def due_fault(manners, one, other):
    sides = [kinds_of(manners, one, other), kinds_of(manners, other, one)]
    for word in ("pass", "slip", "behind", "early", "ahead"):
        for side in sides:
            if word in side:
                return side[word]
    return None


def three(rows, orders=((1, 2), (0, 2), (0, 1)), early=()):
    """Manners of three hands by the words of their rows."""
    return (tuple(tuple(row.split()) for row in rows), orders, early)


def pairs(manners):
    return itertools.permutations(range(len(manners[0])), 2)


class Kinds(Case):
    def test_pass(self):
        manners = three(("- pass stand", "stand - stand", "bow bow -"))
        self.same(fault(manners, 0, 1), ("pass", 0, 1))
        self.same(fault(manners, 1, 0), ("pass", 0, 1))
        self.same(fault(manners, 0, 2), None)
        both = three(("- pass stand", "pass - stand", "bow bow -"))
        self.same(fault(both, 0, 1), ("pass", 0, 1))
        self.same(fault(both, 1, 0), ("pass", 1, 0))

    def test_slip(self):
        manners = three(("- stand bow", "slip - bow", "bow stand -"), ((1, 2), (2, 0), (0, 1)))
        self.same(fault(manners, 0, 1), ("slip", 1, 0))
        self.same(fault(manners, 1, 0), ("slip", 1, 0))
        both = three(("- slip bow", "slip - bow", "bow stand -"), ((2, 1), (2, 0), (0, 1)))
        self.same(fault(both, 0, 1), ("slip", 0, 1))
        self.same(fault(both, 1, 0), ("slip", 1, 0))

    def test_behind(self):
        words = ("- stand slip", "bow - stand", "stand stand -")
        for one, other in ((0, 1), (1, 0)):
            self.same(fault(three(words, ((1, 2), (0, 2), (0, 1))), one, other), ("behind", 0, 2))
            # Ahead of the other one in the order a slip does no harm, if they are not even.
            self.same(fault(three(words, ((2, 1), (0, 2), (0, 1))), one, other), None)

    def test_behind_tells_the_first(self):
        row = ("- stand slip slip", "bow - stand stand", "stand stand - stand", "stand stand stand -")
        for order, due in (((1, 3, 2), 3), ((1, 2, 3), 2), ((3, 1, 2), 2), ((2, 1, 3), 3)):
            manners = three(row, (order, (0, 2, 3), (0, 1, 3), (0, 1, 2)))
            self.same(fault(manners, 0, 1), ("behind", 0, due))
            self.same(fault(manners, 1, 0), ("behind", 0, due))

    def test_early(self):
        for early, due in (((0,), 0), ((1,), 1), ((0, 1), 0), ((), None)):
            manners = (TWO[0], TWO[1], early)
            self.same(fault(manners, 0, 1), None if due is None else ("early", due))
        self.same(fault((TWO[0], TWO[1], (0, 1)), 1, 0), ("early", 1))
        # Who is early, but not even with the other one, does no harm to it.
        self.same(fault((MIXED[0], MIXED[1], (0,)), 0, 1), None)
        self.same(fault((MIXED[0], MIXED[1], (0,)), 0, 2), ("early", 0))
        self.same(fault((MIXED[0], MIXED[1], (0,)), 1, 2), None)

    def test_ahead(self):
        row = ("- even slip slip", "even - stand stand", "stand stand - stand", "stand stand stand -")
        for order, due in (((3, 2, 1), 3), ((2, 3, 1), 2)):
            manners = three(row, (order, (0, 2, 3), (0, 1, 3), (0, 1, 2)))
            self.same(fault(manners, 0, 1), ("ahead", 0, due))
            self.same(fault(manners, 1, 0), ("ahead", 0, due))
        # Behind the even one it is a slip behind; ahead and behind: that is told first.
        for order, due in (((1, 2, 3), 2), ((3, 1, 2), 2), ((2, 1, 3), 3)):
            manners = three(row, (order, (0, 2, 3), (0, 1, 3), (0, 1, 2)))
            self.same(fault(manners, 0, 1), ("behind", 0, due))

    def test_one_kind_of_both_comes_first(self):
        """A kind that the second one has stands ahead of a later kind that the first one has."""
        manners = ((("-", "slip"), ("pass", "-")), ((1,), (0,)), ())
        self.same(fault(manners, 0, 1), ("pass", 1, 0))
        self.same(fault(manners, 1, 0), ("pass", 1, 0))
        late_slip = three(("- stand slip", "slip - stand", "stand stand -"))
        self.same(fault(late_slip, 0, 1), ("slip", 1, 0))
        self.same(fault(late_slip, 1, 0), ("slip", 1, 0))
        behind = three(("- even stand", "even - slip", "stand stand -"), early=(0,))
        self.same(fault(behind, 0, 1), ("behind", 1, 2))
        ahead = three(("- even slip", "even - stand", "stand stand -"), ((2, 1), (0, 2), (0, 1)), (1,))
        self.same(fault(ahead, 0, 1), ("early", 1))
        self.same(fault(ahead, 1, 0), ("early", 1))

    def test_many(self):
        seen = set()
        for manners in many_manners(each=150, seed=101):
            for one, other in pairs(manners):
                due = due_fault(manners, one, other)
                self.same(fault(manners, one, other), due, manners)
                seen.add(due and due[0])
        self.assertEqual(seen, {None, "pass", "slip", "behind", "early", "ahead"})


class Faults(Case):
    def test_many(self):
        for manners in many_manners(each=60, seed=103):
            rising = itertools.combinations(range(len(manners[0])), 2)
            due = [(i, j, due_fault(manners, i, j)) for i, j in rising]
            due = tuple(told for told in due if told[2] is not None)
            self.same(faults(manners), due)
            self.same(is_safe(manners), due == ())

    def test_known(self):
        for word in ("ranked", "level", "meek", "proud"):
            for many in range(2, 7):
                self.same(faults(known(word, many)), ())
                self.same(is_safe(known(word, many)), True)

    def test_of_all(self):
        manners = ((("-", "pass", "pass"),) * 1 + (("pass", "-", "pass"), ("pass", "pass", "-")), MIXED[1], ())
        self.same(faults(manners), ((0, 1, ("pass", 0, 1)), (0, 2, ("pass", 0, 2)), (1, 2, ("pass", 1, 2))))
        self.same(is_safe(manners), False)

    def test_keeps(self):
        for manners in many_manners(each=2, seed=107):
            self.keeps(faults, manners)
            self.keeps(is_safe, manners)
            for one, other in pairs(manners):
                self.keeps(fault, manners, one, other)


class WhatHolds(Case):
    def test_both_ways_round(self):
        for manners in many_manners(each=60, seed=109):
            for one, other in pairs(manners):
                self.same(fault(manners, one, other) is None, fault(manners, other, one) is None)

    def test_safe(self):
        """Safe: nobody passes or slips, and nobody is early that has even ones."""
        dice = random.Random(113)
        found = [random_manners(dice, many, PLAIN) for many in range(2, 7) for _ in range(60)]
        for manners in found + many_manners(each=60, seed=113):
            table, _, early = manners
            words = [word for row in table for word in row]
            due = "pass" not in words and "slip" not in words and not any("even" in table[hand] for hand in early)
            self.same(is_safe(manners), due)

    def test_orders_without_slip(self):
        dice = random.Random(127)
        for _ in range(80):
            manners = random_manners(dice, dice.randrange(2, 7), PLAIN + ("pass",))
            other = random_manners(dice, len(manners[0]))[1]
            self.same(is_safe((manners[0], other, manners[2])), is_safe(manners))

    def test_renamed(self):
        dice = random.Random(131)
        for manners in many_manners(each=40, seed=131):
            many = len(manners[0])
            row = tuple(dice.sample(range(many), many))
            for one, other in pairs(manners):
                told = fault(manners, one, other)
                due = told and told[:1] + tuple(row[hand] for hand in told[1:])
                self.same(fault(renamed(manners, row), row[one], row[other]), due)

    def test_main_1(self):
        """Two can be within together exactly if they have a fault: by all that can come."""
        dice = random.Random(137)
        found = all_of_two() + [random_manners(dice, 3) for _ in range(30)]
        found += [random_manners(dice, 3, PLAIN + ("slip",)) for _ in range(30)]
        found += [random_manners(dice, 3, PLAIN)[:2] + ((),) for _ in range(15)]
        for manners in found:
            due = explore.meetings(explore.reached(manners))
            self.assertEqual({(i, j) for i, j, _ in faults(manners)}, due, manners)


if __name__ == "__main__":
    unittest.main()
