"""[G2] to [G4], [G7]: bowstands.orderings."""

import itertools
import random
import unittest

from bowstands.errors import Unfit
from bowstands.kinds import known
from bowstands.manners import manners_error, renamed
from bowstands.orderings import free_orders, hurdle, told_orders
from bowstands.stalls import is_never_stuck
from tests import explore
from tests.support import MIXED, TWO, Case, random_manners
from tests.tables import all_tables, free_table, no_tables, some_tables, table_of

CALLS = (hurdle, told_orders, free_orders)


def due_hurdle(table):
    """What is due of hurdle."""
    hands = range(len(table))
    for size in range(2, len(table) + 1):
        for ring in itertools.permutations(hands, size):
            bows = all(table[i][j] == "bow" for i, j in zip(ring, ring[1:] + ring[:1]))
            if ring[0] == min(ring) and bows:
                return ("bow", ring)
    for i, j in itertools.combinations(hands, 2):
        if table[i][j] == table[j][i] == "stand":
            return ("stand", i, j)
    for i, j, k in itertools.combinations(hands, 3):
        if table[i][j] == table[j][k] == table[i][k] == "even":
            return ("three", i, j, k)
    return None


def due_orders(table):
    """What is due of told_orders, by a table without a hurdle."""
    row = []
    while len(row) < len(table):
        left = [hand for hand in range(len(table)) if hand not in row]
        row.append(min(hand for hand in left if all(table[hand][other] != "bow" for other in left)))
    rank = {"bow": 0, "even": 1, "stand": 2}
    orders = []
    for hand, treats in enumerate(table):
        others = [other for other in row if other != hand]
        orders.append(tuple(sorted(others, key=lambda other: (rank[treats[other]], row.index(other)))))
    return tuple(orders)


def all_orders(many):
    others = [[other for other in range(many) if other != hand] for hand in range(many)]
    return list(itertools.product(*[itertools.permutations(row) for row in others]))


def due_number(table):
    """What [G7] tells of free_orders."""
    if due_hurdle(table) is not None:
        return 0
    if len(table) == 2:
        return 1
    even = [(i, j) for i, j in itertools.combinations(range(3), 2) if table[i][j] == "even"]
    if not even:
        return 8
    if len(even) == 1:
        i, j = even[0]
        third = 3 - i - j
        words = (table[i][third], table[j][third])
        return 8 if words in (("stand", "stand"), ("bow", "bow")) else 2
    return 2


class Hurdles(Case):
    def test_all_of_few(self):
        for many in (2, 3):
            for table in all_tables(many):
                self.same(hurdle(table), due_hurdle(table), table)

    def test_some_of_many(self):
        dice = random.Random(367)
        seen = set()
        for many in (4, 5, 6):
            for table in some_tables(dice, many, 40):
                due = due_hurdle(table)
                self.same(hurdle(table), due, table)
                seen.add(due and (due[0], due[0] == "bow" and len(due[1])))
        self.assertTrue(seen >= {None, ("bow", 2), ("bow", 3), ("stand", False), ("three", False)}, seen)

    def test_several(self):
        """The first one that applies: rings of bows, then two that stand, then three that are even."""
        all_at_once = (
            ("-", "stand", "even", "even", "even"), ("stand", "-", "stand", "bow", "stand"),
            ("even", "bow", "-", "even", "bow"), ("even", "stand", "even", "-", "stand"),
            ("even", "stand", "stand", "bow", "-"),
        )
        self.same(manners_error((all_at_once, known("level", 5)[1], ())), None)
        self.same(hurdle(all_at_once), ("stand", 0, 1))
        rows = [list(row) for row in all_at_once]
        rows[1][4], rows[4][1] = "bow", "bow"
        self.same(hurdle(tuple(map(tuple, rows))), ("bow", (1, 4)))
        rows[1][4], rows[4][1] = "stand", "bow"
        rows[0][1], rows[1][0] = "stand", "bow"
        self.same(hurdle(tuple(map(tuple, rows))), ("three", 0, 2, 3))

    def test_first_ones(self):
        for many in range(2, 7):
            self.same(hurdle(known("proud", many)[0]), ("stand", 0, 1))
            self.same(hurdle(known("meek", many)[0]), ("bow", (0, 1)))
            self.same(hurdle(known("ranked", many)[0]), None)
            self.same(hurdle(known("level", many)[0]), ("three", 0, 1, 2) if many > 2 else None)
        pairs = list(itertools.combinations(range(6), 2))
        for one, other in itertools.combinations(pairs, 2):
            treats = [("stand", "stand") if pair in (one, other) else ("stand", "bow") for pair in pairs]
            self.same(hurdle(table_of(6, treats)), ("stand",) + one)
        threes = list(itertools.combinations(range(6), 3))
        for one, other in itertools.combinations(threes, 2):
            even = set(itertools.combinations(one, 2)) | set(itertools.combinations(other, 2))
            table = table_of(6, [("even", "even") if pair in even else ("stand", "bow") for pair in pairs])
            self.same(hurdle(table), due_hurdle(table))

    def test_unfit(self):
        for value in no_tables():
            for call in CALLS:
                self.fails(Unfit(), call, value)

    def test_renamed(self):
        dice = random.Random(373)
        for many in (2, 3, 4, 5, 6):
            for table in some_tables(dice, many, 8):
                manners = (table, random_manners(dice, many)[1], ())
                other = renamed(manners, tuple(dice.sample(range(many), many)))[0]
                told, new = hurdle(table), hurdle(other)
                self.same(told is None, new is None)


class ToldOrders(Case):
    def test_all_of_few(self):
        for many in (2, 3):
            for table in all_tables(many):
                if due_hurdle(table) is None:
                    self.same(told_orders(table), due_orders(table), table)
                else:
                    self.fails(Unfit(), told_orders, table)

    def test_some_of_many(self):
        dice = random.Random(379)
        for many in (4, 5, 6):
            for table in some_tables(dice, many, 30) + [free_table(dice, many) for _ in range(30)]:
                if due_hurdle(table) is None:
                    told = told_orders(table)
                    self.same(told, due_orders(table), table)
                    self.same(manners_error((table, told, ())), None)
                else:
                    self.fails(Unfit(), told_orders, table)

    def test_they_are_free(self):
        """MAIN 4: by the told orders the manners are never stuck."""
        dice = random.Random(383)
        for table in all_tables(2) + all_tables(3):
            if due_hurdle(table) is None:
                manners = (table, told_orders(table), ())
                self.same(is_never_stuck(manners), True, table)
                self.same(explore.can_stall(explore.reached(manners)), False, table)
        for many in (4, 5, 6):
            for _ in range(40):
                table = free_table(dice, many)
                self.same(is_never_stuck((table, told_orders(table), ())), True, table)

    def test_two_lots(self):
        """All of one lot are even with all of the other one."""
        for many in (4, 5, 6):
            lots = [hand % 2 for hand in range(many)]
            pairs = itertools.combinations(range(many), 2)
            treats = [("even", "even") if lots[i] != lots[j] else ("bow", "stand") for i, j in pairs]
            table = table_of(many, treats)
            self.same(told_orders(table), due_orders(table))
            self.same(is_never_stuck((table, told_orders(table), ())), True)

    def test_row(self):
        """The row is told by who is left; hands that nobody is over come in their order."""
        self.same(told_orders(known("ranked", 4)[0]), ((1, 2, 3), (0, 2, 3), (0, 1, 3), (0, 1, 2)))
        backward = renamed(known("ranked", 4), (3, 2, 1, 0))[0]
        self.same(told_orders(backward), ((3, 2, 1), (3, 2, 0), (3, 1, 0), (2, 1, 0)))
        table = table_of(4, [("even", "even"), ("stand", "bow"), ("bow", "stand"), ("bow", "stand"), ("even", "even"), ("bow", "stand")])
        self.same(told_orders(table), due_orders(table))

    def test_with_a_hurdle_none_are_free(self):
        dice = random.Random(389)
        for many in (4, 5, 6):
            for table in some_tables(dice, many, 12):
                if due_hurdle(table) is not None:
                    for _ in range(4):
                        self.same(is_never_stuck((table, random_manners(dice, many)[1], ())), False)


class FreeOrders(Case):
    def test_all(self):
        """Against [G7], for all plain tables of two and three hands."""
        for many in (2, 3):
            seen = set()
            for table in all_tables(many):
                due = due_number(table)
                self.same(free_orders(table), due, table)
                seen.add(due)
            self.assertEqual(seen, {0, 1} if many == 2 else {0, 2, 8})

    def test_by_all_that_can_come(self):
        dice = random.Random(397)
        for table in [TWO[0], MIXED[0]] + all_tables(2) + dice.sample(all_tables(3), 6) + [free_table(dice, 3)] * 2:
            free = 0
            for orders in all_orders(len(table)):
                free += not explore.can_stall(explore.reached((table, orders, ())))
            self.same(free_orders(table), free, table)

    def test_unfit(self):
        dice = random.Random(401)
        for many in (4, 5, 6):
            for table in some_tables(dice, many, 3) + [known("ranked", many)[0]]:
                self.fails(Unfit(), free_orders, table)

    def test_renamed(self):
        dice = random.Random(409)
        for table in dice.sample(all_tables(3), 30):
            row = tuple(dice.sample(range(3), 3))
            self.same(free_orders(renamed((table, MIXED[1], ()), row)[0]), free_orders(table))

    def test_keeps(self):
        dice = random.Random(419)
        for table in [TWO[0], MIXED[0], free_table(dice, 3), free_table(dice, 3)]:
            for call in CALLS:
                self.keeps(call, table)
        self.keeps(hurdle, known("level", 5)[0])


if __name__ == "__main__":
    unittest.main()
