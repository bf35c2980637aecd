"""[E3] to [E5]: bowstands.times."""

import itertools
import random
import unittest

from bowstands.errors import Unfit
from bowstands.kinds import known
from bowstands.manners import renamed
from bowstands.rings import wait_rings
from bowstands.times import events, is_timely, order_error, order_of
from tests import timemodel
from tests.support import MIXED, TWO, Case, odd_values, random_manners

WAITS = (("stand", "bow", "even"), ("stand", "even"), ("stand", "stand", "bow"), ("even", "even", "stand"))
LATE = (MIXED[0], ((2, 1), (0, 2), (1, 0)), ())
HASTY = (TWO[0], TWO[1], (1,))
TALE = (
    ("raise", 2), ("hand", 2, 1), ("raise", 1), ("hand", 1, 2), ("look", 1, 0),
    ("raise", 0), ("hand", 0, 2), ("hand", 2, 0), ("look", 0, 2), ("look", 2, 1),
)


def safe(dice, many, words):
    return random_manners(dice, many, words)[:2] + ((),)


def samples(seed, sizes, each, largest=6):
    """Pairs (manners, ring) of so many hands each, all of their rings of at most so many hands."""
    dice = random.Random(seed)
    found = []
    for many in sizes:
        for _ in range(each):
            manners = safe(dice, many, dice.choice(WAITS))
            found += [(manners, ring) for ring in wait_rings(manners) if len(ring) <= largest]
    return found


def all_orders(many):
    """All tuples of orders of so many hands."""
    others = [[other for other in range(many) if other != hand] for hand in range(many)]
    return itertools.product(*[itertools.permutations(row) for row in others])


def shuffled(dice, rows):
    """The items of the rows in any order that keeps each row's own."""
    rest = [list(row) for row in rows]
    found = []
    while any(rest):
        found.append(dice.choice([row for row in rest if row]).pop(0))
    return tuple(found)


class Events(Case):
    def test_many(self):
        for manners, ring in samples(181, (2, 3, 4, 5), 12) + samples(181, (6,), 2):
            self.same(events(manners, ring), tuple(timemodel.all_events(manners, ring)), (manners, ring))

    def test_each_order(self):
        """What comes ahead of the next one in the order is looked at, all even ones of the ring are handed to."""
        table = known("level", 3)[0]
        for orders in all_orders(3):
            for ring in ((0, 1, 2), (0, 2, 1)):
                told = events((table, orders, ()), ring)
                self.same(told, tuple(timemodel.all_events((table, orders, ()), ring)))
                self.same([event[0] for event in told].count("hand"), 6)
        self.same(
            events((table, ((1, 2), (2, 0), (0, 1)), ()), (0, 1, 2)),
            tuple([("hand", i, j) for i in range(3) for j in range(3) if i != j] + [("raise", hand) for hand in range(3)]),
        )

    def test_only_hands_of_the_ring(self):
        manners = known("level", 4)
        self.same(
            events(manners, (1, 3)),
            (("hand", 1, 3), ("hand", 3, 1), ("raise", 1), ("raise", 3)),
        )
        self.same(
            events(known("proud", 5), (0, 4, 2)),
            (("look", 0, 2), ("look", 4, 0), ("raise", 0), ("raise", 2), ("raise", 4)),
        )

    def test_unfit(self):
        blind = ((("-", "pass", "stand"), ("stand", "-", "stand"), ("stand", "stand", "-")), MIXED[1], ())
        for manners, ring in ((HASTY, (0, 1)), (blind, (0, 2)), (blind, (1, 2))):
            self.assertIn(ring, wait_rings(manners))
            self.fails(Unfit(), events, manners, ring)
            self.fails(Unfit(), order_of, manners, ring)
            self.fails(Unfit(), is_timely, manners, ring)
            for value in (None, (), (("raise", 0),)):
                self.fails(Unfit(), order_error, manners, ring, value)


class OrdersOfTime(Case):
    def test_many(self):
        """Against going through all orders."""
        seen = set()
        for manners, ring in samples(191, (2, 3), 40) + samples(191, (4,), 8, 4) + samples(191, (5,), 4, 3):
            told = order_of(manners, ring)
            due = timemodel.orders(manners, ring)
            self.same(told is None, due is None, (manners, ring))
            self.same(is_timely(manners, ring), due is not None)
            seen.add((len(ring), due is None))
            if due is not None:
                self.same(timemodel.error_of(manners, ring, told), None, (manners, ring, told))
                self.same(order_error(manners, ring, told), None)
                self.same(order_error(manners, ring, due), None)
        self.assertTrue(seen >= {(size, is_none) for size in (2, 3, 4) for is_none in (True, False)}, seen)

    def test_greater(self):
        """Rings of five and six: what is told is an order of time."""
        seen = set()
        for manners, ring in samples(193, (5,), 6) + samples(193, (6,), 4):
            told = order_of(manners, ring)
            seen.add((len(ring), told is None))
            self.same(is_timely(manners, ring), told is not None)
            if told is not None:
                self.same(timemodel.error_of(manners, ring, told), None, (manners, ring, told))
        self.assertTrue(seen >= {(size, is_none) for size in (5, 6) for is_none in (True, False)}, seen)

    def test_a_flag_that_is_half_bars(self):
        """Two looks that nothing else keeps from coming: one flag would always be half."""
        found = 0
        for manners, ring in samples(197, (4,), 40, 4):
            rows = timemodel.own_rows(manners, ring)
            if order_of(manners, ring) is None and is_fit_without_halves(manners, ring, rows):
                found += 1
                self.same(timemodel.orders(manners, ring), None, (manners, ring))
        self.assertGreater(found, 0)


def is_fit_without_halves(manners, ring, rows):
    """Whether there was an order if each hand could look at flags that are half up as at those that are up."""
    needs = {event: set(row[:place]) for row in rows.values() for place, event in enumerate(row)}
    for word, i, j in [event for event in needs if event[0] == "look"]:
        if manners[0][i][j] == "even":
            needs[("hand", j, i)].add(("hand", i, j))
        else:
            needs[("raise", j)].add((word, i, j))
    for i, j in timemodel.next_ones(ring).items():
        if manners[0][i][j] == "even":
            needs[("hand", i, j)].add(("hand", j, i))
    done = set()
    while True:
        more = {event for event in needs if event not in done and needs[event] <= done}
        if not more:
            return len(done) == len(needs)
        done |= more


class OrderErrors(Case):
    def test_form(self):
        for value in odd_values():
            if not isinstance(value, tuple):
                self.same(order_error(LATE, (0, 1, 2), value), "form", value)
        self.same(order_error(LATE, (0, 1, 2), list(TALE)), "form")

    def test_event(self):
        for value in odd_values():
            if isinstance(value, tuple) and value:
                self.same(order_error(LATE, (0, 1, 2), value), ("event", 0), value)
        wrong = [
            ("raise", True), ("raise", 3), ("raise",), ("raise", 0, 0), ("look", 0, 1), ("hand", 0, 1), ["raise", 0],
            ("raise", "0"), "raise", None, 0, ("raise", None), ("look", 0, (2,)), ("look", 0, [2]), ("look", False, 2),
            {"raise": 0}, ("hand", 2, True), ("see", 0, 2), (("raise", 0),), ("raise", [0]), ("raise", {0: 1}),
        ]
        for place in (0, 4, 9):
            for item in wrong:
                value = TALE[:place] + (item,) + TALE[place + 1:]
                self.same(order_error(LATE, (0, 1, 2), value), ("event", place), value)
            self.same(order_error(LATE, (0, 1, 2), TALE[:place + 1] + TALE[place:]), ("event", place + 1))
        self.same(order_error(LATE, (0, 1, 2), TALE + TALE), ("event", 10))
        # The first one is told; and this ahead of what is lacking.
        self.same(order_error(LATE, (0, 1, 2), (TALE[3], None, TALE[3])), ("event", 1))
        self.same(order_error(LATE, (0, 1, 2), (TALE[3], TALE[3], None)), ("event", 1))

    def test_lacks(self):
        self.same(order_error(LATE, (0, 1, 2), ()), ("lacks", ("hand", 0, 2)))
        for place, event in enumerate(TALE):
            self.same(order_error(LATE, (0, 1, 2), TALE[:place] + TALE[place + 1:]), ("lacks", event))
        self.same(order_error(LATE, (0, 1, 2), TALE[:2]), ("lacks", ("hand", 0, 2)))
        # Ahead of what is told of the order.
        self.same(order_error(LATE, (0, 1, 2), TALE[:0:-1]), ("lacks", ("raise", 2)))

    def test_own(self):
        self.same(order_error(LATE, (0, 1, 2), TALE[::-1]), ("own", 0))
        first_two = (TALE[0], TALE[2], TALE[3], TALE[4], TALE[5], TALE[8], TALE[6], TALE[1], TALE[7], TALE[9])
        self.same(order_error(LATE, (0, 1, 2), first_two), ("own", 5))
        # 2 hands over to 1 ahead of 0.
        turned = TALE[:1] + TALE[2:3] + TALE[7:8] + TALE[1:2] + TALE[3:7] + TALE[8:]
        self.same(order_error(LATE, (0, 1, 2), turned), ("own", 2))

    def test_look(self):
        proud = known("proud", 3)
        right = (("raise", 2), ("look", 2, 0), ("raise", 0), ("look", 0, 1), ("raise", 1))
        self.same(order_error(proud, (0, 2, 1), right), None)
        self.same(order_error(proud, (0, 2, 1), right[:1] + (right[2], right[1]) + right[3:]), ("look", 2))
        self.same(order_error(proud, (0, 2, 1), right[:3] + (right[4], right[3])), ("look", 4))
        # Both looks are wrong: the first one is told.
        both = (("raise", 1), ("raise", 0), ("look", 0, 1), ("raise", 2), ("look", 2, 0))
        self.same(order_error(proud, (0, 2, 1), both), ("look", 2))

    def test_look_at_an_even_one(self):
        """The flag is down; or it is up, not half, and the token is with the one that looks."""
        manners = (known("level", 3)[0], ((1, 2), (0, 2), (1, 0)), ())
        ring = (0, 1, 2)
        rows = timemodel.own_rows(manners, ring)
        found = {}
        dice = random.Random(199)
        for _ in range(3000):
            value = shuffled(dice, rows.values())
            due = timemodel.error_of(manners, ring, value)
            found.setdefault(due if due is None else due[0], value)
            self.same(order_error(manners, ring, value), due, value)
        self.assertEqual(set(found), {None, "look", "token"}, found)

    def test_token(self):
        value = (("raise", 0), ("hand", 0, 1), ("raise", 1), ("hand", 1, 0))
        self.same(order_error(TWO, (0, 1), value), ("token", 0))
        value = (("raise", 0), ("raise", 1), ("hand", 1, 0), ("hand", 0, 1))
        self.same(order_error(TWO, (0, 1), value), ("token", 1))
        # A look that is wrong is told ahead of it.
        manners = (known("level", 3)[0], ((2, 1), (2, 0), (0, 1)), ())
        value = (
            ("raise", 0), ("hand", 0, 2), ("hand", 0, 1), ("raise", 2), ("look", 0, 2),
            ("hand", 2, 0), ("hand", 2, 1), ("raise", 1), ("hand", 1, 2), ("hand", 1, 0),
        )
        self.same(order_error(manners, (0, 1, 2), value), ("look", 4))
        value = value[:4] + value[5:7] + value[4:5] + value[7:]
        self.same(order_error(manners, (0, 1, 2), value), ("token", 0))

    def test_many(self):
        """Orders in which something is exchanged, doubled, lacking, of another kind; several at once."""
        dice = random.Random(211)
        seen = set()
        for manners, ring in samples(211, (2, 3, 4), 15) + samples(211, (5, 6), 1, 5)[:80]:
            rows = timemodel.own_rows(manners, ring)
            known_ones = timemodel.all_events(manners, ring)
            value = order_of(manners, ring) or shuffled(dice, rows.values())
            for _ in range(12):
                other = list(dice.choice((value, shuffled(dice, rows.values()))))
                for _ in range(dice.choice((0, 1, 1, 2))):
                    one, two = dice.randrange(len(other)), dice.randrange(len(other))
                    change = dice.randrange(6)
                    if change < 3:
                        other[one], other[two] = other[two], other[one]
                    elif change == 3 and len(other) > 1:
                        del other[one]
                    elif change == 4:
                        other.insert(one, dice.choice(known_ones))
                    else:
                        other[one] = dice.choice([None, ("raise", True), ("look", 0, 9), [other[one]], ("hand",)])
                due = timemodel.error_of(manners, ring, tuple(other))
                self.same(order_error(manners, ring, tuple(other)), due, (manners, ring, other))
                seen.add(due if due is None else due[0])
        self.assertEqual(seen, {None, "event", "lacks", "own", "look", "token"})


class WhatHolds(Case):
    def test_two(self):
        """A ring of two is timely exactly if both stand for one another."""
        for manners, ring in samples(223, (2, 3, 4, 5, 6), 12, 2):
            words = (manners[0][ring[0]][ring[1]], manners[0][ring[1]][ring[0]])
            self.same(is_timely(manners, ring), words == ("stand", "stand"))

    def test_three_even(self):
        table = known("level", 3)[0]
        for orders in all_orders(3):
            timely = []
            for ring in ((0, 1, 2), (0, 2, 1)):
                at_next_first = [orders[i][0] == j for i, j in timemodel.next_ones(ring).items()]
                timely.append(is_timely((table, orders, ()), ring))
                self.same(timely[-1], not all(at_next_first))
            self.assertTrue(any(timely))

    def test_three_even_of_more(self):
        dice = random.Random(227)
        for many in (4, 5, 6):
            for _ in range(10):
                manners = safe(dice, many, ("even",))
                for ring in [ring for ring in wait_rings(manners) if len(ring) == 3]:
                    nexts = timemodel.next_ones(ring)
                    at_next_first = [[j for j in manners[1][i] if j in ring][0] == nexts[i] for i in ring]
                    self.same(is_timely(manners, ring), not all(at_next_first))

    def test_no_two_even(self):
        """Timely exactly if there is a row by which each stands ahead of all at which it looks."""
        found = set()
        for manners, ring in samples(229, (2, 3, 4, 5), 15):
            pairs = itertools.combinations(ring, 2)
            if any(manners[0][i][j] == "even" for i, j in pairs):
                continue
            looks = [event[1:] for event in events(manners, ring) if event[0] == "look"]
            rows = itertools.permutations(ring)
            due = any(all(row.index(i) < row.index(j) for i, j in looks) for row in rows)
            self.same(is_timely(manners, ring), due)
            found.add((len(ring), due))
        self.assertTrue(found >= {(2, True), (3, True), (3, False), (4, True), (4, False)}, found)

    def test_looks_at_those_that_are_not_even(self):
        for manners, ring in samples(233, (3, 4, 5), 8):
            told = order_of(manners, ring)
            for event in told or ():
                if event[0] == "look" and manners[0][event[1]][event[2]] != "even":
                    self.assertLess(told.index(event), told.index(("raise", event[2])))

    def test_renamed(self):
        dice = random.Random(239)
        for manners, ring in samples(239, (2, 3, 4, 5), 6) + samples(239, (6,), 1):
            many = len(manners[0])
            row = tuple(dice.sample(range(many), many))
            names = tuple(row[hand] for hand in ring)
            place = names.index(min(names))
            turned = names[place:] + names[:place]
            self.same(is_timely(renamed(manners, row), turned), is_timely(manners, ring))

    def test_keeps(self):
        for manners, ring in samples(241, (2, 3, 4), 2):
            for call in (events, order_of, is_timely):
                self.keeps(call, manners, ring)
            for value in (order_of(manners, ring), events(manners, ring), [events(manners, ring)]):
                self.keeps(order_error, manners, ring, value)


if __name__ == "__main__":
    unittest.main()
