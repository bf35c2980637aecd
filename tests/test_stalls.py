"""[F2], [F3], [F6]: bowstands.stalls."""

import random
import unittest

from bowstands.aparts import is_safe
from bowstands.errors import Unfit
from bowstands.kinds import known
from bowstands.manners import renamed
from bowstands.rings import bow_ring, wait_rings
from bowstands.stalls import is_never_stuck, stall, stall_error, stuck_ring
from bowstands.times import is_timely
from tests import explore, loopmodel, timemodel
from tests.support import MIXED, TWO, Case, all_of_two, many_manners, odd_values, random_manners

PLAIN = ("stand", "bow", "even")
LATE = (MIXED[0], ((2, 1), (0, 2), (1, 0)), ())
JAM = ((2, 2, 2, 1, 1, 1, 1, 0, 0, 0, 2, 0, 2), ())
MEEK = known("meek", 2)
BOWS = ((0, 0, 1, 1), (0, 1, 0, 1, 0, 1, 0, 1))
KINDS = (PLAIN, ("stand", "even"), ("stand", "stand", "bow"), ("stand", "bow", "even", "even"), ("stand", "bow", "bow"))


def safe(dice, many, words=PLAIN):
    return random_manners(dice, many, words)[:2] + ((),)


def ring_of_bows(many, chords="stand"):
    """Manners by which each bows to the next one, who stands for it; others treat one another as told."""
    rows = [["-" if i == j else chords for j in range(many)] for i in range(many)]
    for hand in range(many):
        rows[hand][(hand + 1) % many] = "bow"
        rows[hand][hand - 1] = "stand"
    return (tuple(map(tuple, rows)), known("proud", many)[1], ())


def ranked_but(dice, many, evens=1):
    """Ranked manners in which some pairs are even, with any orders and names: often never stuck."""
    rows = [list(row) for row in known("ranked", many)[0]]
    for _ in range(evens):
        i, j = dice.sample(range(many), 2)
        rows[i][j] = rows[j][i] = "even"
    orders = random_manners(dice, many)[1]
    return renamed((tuple(map(tuple, rows)), orders, ()), tuple(dice.sample(range(many), many)))


class StuckRings(Case):
    def test_two(self):
        for manners in all_of_two():
            if not is_safe(manners):
                self.fails(Unfit(), stuck_ring, manners)
                self.fails(Unfit(), is_never_stuck, manners)
                self.fails(Unfit(), stall, manners)
                continue
            words = (manners[0][0][1], manners[0][1][0])
            due = {("bow", "bow"): ("bow", (0, 1)), ("stand", "stand"): ("wait", (0, 1))}.get(words)
            self.same(stuck_ring(manners), due)
            self.same(is_never_stuck(manners), due is None)

    def test_many(self):
        dice = random.Random(251)
        seen = set()
        for many in (3, 3, 3, 4, 5, 6):
            for words in KINDS * 3:
                manners = safe(dice, many, words)
                told = stuck_ring(manners)
                self.same(told, self.due(manners, many), manners)
                self.same(is_never_stuck(manners), told is None)
                seen.add(told and (told[0], len(told[1])))
        self.assertTrue(seen >= {None, ("bow", 2), ("bow", 3), ("wait", 2), ("wait", 3)}, seen)

    def due(self, manners, many):
        """The ring that is due; whether rings are timely is told by tests/timemodel.py, if there are few hands."""
        bows = bow_ring(manners)
        if bows is not None:
            return ("bow", bows)
        for ring in wait_rings(manners):
            if timemodel.orders(manners, ring) is not None if many < 5 else is_timely(manners, ring):
                return ("wait", ring)
        return None

    def test_first_one(self):
        """A bow ring comes ahead of all wait rings, and of these the first timely one counts."""
        rows = (("-", "stand", "stand", "stand"), ("stand", "-", "stand", "stand"))
        rows += (("stand", "stand", "-", "bow"), ("stand", "stand", "bow", "-"))
        self.same(stuck_ring((rows, known("proud", 4)[1], ())), ("bow", (2, 3)))
        self.same(stuck_ring(known("level", 4)), ("wait", (0, 1, 2)))
        self.same(stuck_ring((MIXED[0], MIXED[1], ())), None)
        self.same(stuck_ring(LATE), ("wait", (0, 1, 2)))

    def test_unfit(self):
        for manners in many_manners(each=25, seed=257):
            if not is_safe(manners):
                for call in (stuck_ring, is_never_stuck, stall):
                    self.fails(Unfit(), call, manners)

    def test_early_ones_without_even_ones(self):
        for word, due in (("ranked", None), ("meek", ("bow", (0, 1))), ("proud", ("wait", (0, 1)))):
            for many in (2, 3, 6):
                manners = known(word, many)[:2] + ((0, many - 1),)
                self.same(stuck_ring(manners), due)
                if due is not None:
                    self.same(loopmodel.stall_error_of(manners, stall(manners)), None)


class Stalls(Case):
    def check(self, manners):
        found = stuck_ring(manners)
        told = stall(manners)
        if found is None:
            self.same(told, None)
        else:
            self.same(loopmodel.stall_error_of(manners, told), None, (manners, told))
            self.same(stall_error(manners, told), None)
        return found and (found[0], len(found[1]))

    def test_two(self):
        for manners in all_of_two():
            if is_safe(manners):
                self.check(manners)

    def test_many(self):
        dice = random.Random(263)
        seen = set()
        for many in (3, 4, 5, 6):
            for words in KINDS * 8:
                seen.add(self.check(safe(dice, many, words)))
        self.assertTrue(seen >= {None, ("bow", 2), ("bow", 3), ("wait", 2), ("wait", 3), ("wait", 4)}, seen)

    def test_rings_of_bows(self):
        dice = random.Random(269)
        for many in (3, 4, 5, 6):
            for chords in ("stand", "even"):
                for _ in range(5):
                    table = ring_of_bows(many, chords)[0]
                    manners = (table, random_manners(dice, many)[1], ())
                    self.same(self.check(manners), ("bow", many))

    def test_rings_of_bows_beside_others(self):
        """Those of the ring have even ones outside of it, in it, ahead and behind in their orders."""
        dice = random.Random(271)
        found = 0
        for _ in range(200):
            manners = safe(dice, 6, ("stand", "even"))
            rows = [list(row) for row in manners[0]]
            hands = dice.sample(range(6), dice.randrange(3, 5))
            for i, j in zip(hands, hands[1:] + hands[:1]):
                rows[i][j], rows[j][i] = "bow", "stand"
            manners = (tuple(map(tuple, rows)),) + manners[1:]
            if self.check(manners) == ("bow", len(hands)):
                found += 1
        self.assertGreater(found, 150)

    def test_waits_beside_others(self):
        """Those of the ring have even ones outside of it, to which they hand over, and at which they look."""
        dice = random.Random(277)
        seen = set()
        for _ in range(150):
            seen.add(self.check(ranked_but(dice, dice.randrange(3, 7), dice.randrange(6))))
        self.assertTrue(seen >= {None, ("wait", 3), ("wait", 4)}, seen)

    def test_main_2(self):
        """There is a stall exactly if there is a ring: by all that can come of three hands."""
        dice = random.Random(281)
        seen = set()
        for words in KINDS * 8:
            manners = safe(dice, 3, words) if dice.random() < 0.5 else ranked_but(dice, 3, dice.randrange(3))
            due = explore.can_stall(explore.reached(manners))
            self.same(stall(manners) is not None, due, manners)
            self.same(is_never_stuck(manners), not due)
            seen.add(due)
        self.assertEqual(seen, {True, False})

    def test_renamed(self):
        dice = random.Random(283)
        for many in (2, 3, 4, 5, 6):
            for words in KINDS:
                manners = ranked_but(dice, many) if dice.random() < 0.5 else safe(dice, many, words)
                row = tuple(dice.sample(range(many), many))
                self.same(is_never_stuck(renamed(manners, row)), is_never_stuck(manners))


class StallErrors(Case):
    def test_form(self):
        for value in odd_values():
            # Two tuples of hands are among them.
            if value not in (((), ()), TWO[1]):
                self.same(stall_error(MEEK, value), "form", value)
        for hand in (2, -1, True, False, None, "0", (0,), 10 ** 300):
            self.same(stall_error(MEEK, ((0, hand), ())), "form")
            self.same(stall_error(MEEK, ((0,), (hand,))), "form")
        self.same(stall_error(MEEK, ([0], ())), "form")
        self.same(stall_error(MEEK, ((0,), [])), "form")
        self.same(stall_error(MEEK, [(0,), ()]), "form")
        self.same(stall_error(MEEK, BOWS + ((),)), "form")
        # A hand that there is not, behind one that is barred.
        self.same(stall_error(MEEK, (BOWS[0] + (0, 0, 0, 2), ())), "form")

    def test_length(self):
        self.same(stall_error(MEEK, (BOWS[0] + (0,) * 896, ())), ("run", 6))
        self.same(stall_error(MEEK, (BOWS[0] + (0,) * 897, ())), "form")
        self.same(stall_error(MEEK, (BOWS[0], BOWS[1] * 112)), None)
        self.same(stall_error(MEEK, (BOWS[0], BOWS[1] * 113)), "form")
        rounds = (0, 0, 0, 0) * 225
        self.same(stall_error(MEEK, (rounds[:896] + BOWS[0], BOWS[1])), None)
        self.same(stall_error(MEEK, (rounds + BOWS[0], BOWS[1])), "form")

    def test_each_word(self):
        for value, due in (
            (BOWS, None),
            ((BOWS[0] + (0, 0, 0), ()), ("run", 6)),
            (((0, 0, 0), ()), "within"),
            (((), ()), "rest"),
            (((0, 0, 0, 0), ()), "rest"),
            ((BOWS[0], (0, 0, 0)), ("round", 2)),
            ((BOWS[0], (0, 0, 1)), ("word", 2)),
            (((0,), (0, 0)), ("word", 1)),
            (((0,), (1,)), ("word", 0)),
            ((BOWS[0], (0, 1)), "back"),
            (((0,), (0,)), "back"),
            ((BOWS[0], ()), ("hand", 0)),
            ((BOWS[0][:2], ()), ("hand", 0)),
            (((1,), ()), ("hand", 1)),
        ):
            self.same(stall_error(MEEK, value), due, value)
            self.same(loopmodel.stall_error_of(MEEK, value), due, value)

    def test_several_at_once(self):
        within = (0, 0, 0)
        self.same(stall_error(MEEK, (BOWS[0] + (0, 0, 0), (0, 0))), ("run", 6))
        # Somebody is within, and the round has a hand that is barred, begins and leads to elsewhere.
        self.same(stall_error(MEEK, (within, (1, 1, 1, 1, 1))), "within")
        self.same(stall_error(MEEK, ((), (0, 0, 0))), "rest")
        # A hand that is barred, behind a word.
        self.same(stall_error(MEEK, (BOWS[0][:2], (0, 1, 1, 1, 1, 1))), ("round", 5))
        self.same(stall_error(MEEK, ((0, 0), (0, 0, 0, 0))), ("word", 0))
        self.same(stall_error(MEEK, ((0,), (0, 0, 0))), ("word", 1))
        self.same(stall_error(known("meek", 3), ((0, 0, 1, 1), (0,))), "back")

    def test_first_idle(self):
        # 0 and 1 wait for one another; 2 is going to raise its flag, then to look.
        waits = (0, 0, 1, 1)
        for run, due in ((waits, None), (waits + (2,), ("hand", 2)), (waits + (2, 2), None)):
            self.same(stall_error(known("proud", 3), (run, ())), due)
            # 1 can yield.
            self.same(stall_error(known("ranked", 3), (run, ())), ("hand", 1))
        # By other orders 0 and 1 look at 2 first.
        manners = (known("proud", 3)[0], ((2, 1), (2, 0), (0, 1)), ())
        self.same(stall_error(manners, (waits, ())), ("hand", 0))
        self.same(stall_error(manners, (waits + (0,), ())), ("hand", 1))
        self.same(stall_error(manners, (waits + (0, 1), ())), None)

    def test_barred_in_some_standing(self):
        """A hand that is barred at times in the round need not move; nor who rests."""
        rows = (("-", "bow", "stand"), ("bow", "-", "stand"), ("stand", "stand", "-"))
        manners = (rows, ((1, 2), (0, 2), (0, 1)), ())
        run = (0, 0, 1, 1, 2, 2)
        round_of_two = (0, 1, 0, 1, 0, 1, 0, 1)
        self.same(stall_error(manners, (run, round_of_two)), None)
        self.same(stall_error(manners, (run[:4], round_of_two)), None)
        self.same(stall_error(manners, (run[:5], round_of_two)), ("hand", 2))
        # The standings at the beginning and behind each step count: 2 sees all flags down in the middle alone.
        turned = (round_of_two[4:] + round_of_two[:4])
        self.same(stall_error(manners, ((0, 0, 1, 1, 2, 2) + round_of_two[:4], turned)), None)

    def test_not_safe(self):
        """Manners may be any manners: two that slip for one another."""
        slips = ((("-", "slip"), ("slip", "-")), ((1,), (0,)), ())
        run = (0, 0, 1, 1)
        self.same(stall_error(slips, (run, (0, 1, 0, 1, 0, 1))), "back")
        for manners in all_of_two():
            for value in (BOWS, (run, ()), ((0, 0, 0, 1, 1, 1), ())):
                self.same(stall_error(manners, value), loopmodel.stall_error_of(manners, value))

    def test_tokens_come_back(self):
        """The round leads back to places and tokens."""
        table = (("-", "bow", "even"), ("bow", "-", "even"), ("even", "even", "-"))
        manners = (table, ((1, 2), (0, 2), (0, 1)), ())
        again = (0, 0, 1, 1, 0, 1, 0, 1, 0, 1)
        # Behind the first round all places are as they were, but both tokens are with 2.
        self.same(stall_error(manners, ((0, 1), again)), "back")
        self.same(stall_error(manners, ((0, 1) + again, again)), None)

    def test_changed(self):
        """Stalls in which something is otherwise, against the words told straight from the text."""
        dice = random.Random(293)
        seen = set()
        for many in (2, 3, 4, 6):
            for words in KINDS * 3:
                manners = safe(dice, many, words)
                value = stall(manners) or ((0,), ())
                for _ in range(15):
                    other = loopmodel.changed_pair(dice, manners, value)
                    due = loopmodel.stall_error_of(manners, other)
                    self.same(stall_error(manners, other), due, (manners, other))
                    seen.add(due[0] if isinstance(due, tuple) else due)
        self.assertEqual(seen, {None, "form", "run", "within", "rest", "round", "word", "back", "hand"})

    def test_random_pairs(self):
        dice = random.Random(307)
        for manners in many_manners(each=12, seed=307):
            first = loopmodel.first(manners)
            for _ in range(4):
                run = loopmodel.model.random_run(dice, manners, first, dice.randrange(12))
                value = loopmodel.changed_pair(dice, manners, (run, ()))
                self.same(stall_error(manners, value), loopmodel.stall_error_of(manners, value), (manners, value))

    def test_jam(self):
        self.same(stall_error(LATE, JAM), None)
        self.same(stall_error(MIXED, JAM), ("run", 11))
        self.same(stall_error(TWO, JAM), "form")
        for place in range(len(JAM[0])):
            value = (JAM[0][:place], ())
            self.same(stall_error(LATE, value), loopmodel.stall_error_of(LATE, value))

    def test_keeps(self):
        for manners in (MEEK, LATE, known("proud", 3), ring_of_bows(4), MIXED):
            for call in (stuck_ring, is_never_stuck, stall):
                self.keeps(call, manners)
            for value in (stall(manners), BOWS, [BOWS], {1: [2]}, None):
                self.keeps(stall_error, manners, value)


if __name__ == "__main__":
    unittest.main()
