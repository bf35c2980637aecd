"""[L6], [L8]: bowstands.slowstalls."""

import random
import unittest

from bowstands.aparts import is_safe
from bowstands.errors import Unfit
from bowstands.kinds import known
from bowstands.slowruns import slow_behind, slowed
from bowstands.slowstalls import slow_keeping, slow_keeping_error, slow_stall, slow_stall_error
from bowstands.stalls import is_never_stuck, stuck_ring
from bowstands.standings import start
from tests import explore, model, slowmodel
from tests.support import MIXED, TWO, Case, all_of_two, many_manners, odd_values, random_manners
from tests.test_stalls import KINDS, ranked_but, ring_of_bows, safe

LATE = (MIXED[0], ((2, 1), (0, 2), (1, 0)), ())
BLIND = ((("-", "pass"), ("stand", "-")), ((1,), (0,)), ())
MEEK = known("meek", 2)
ROW = known("ranked", 2)
OUT = ("begin", "enter", "leave", "left")


def by(hand, words):
    """The pairs of the hand and each of the words."""
    return tuple((hand, word) for word in words.split())


BEGUN = by(0, "begin raise")
DAZED = (BEGUN + by(1, "begin raise raised"), by(1, "yield lower lowered see raise raised"))

# Both meek ones at their looks, and bowing to one another once.
LOOKS = by(0, "begin raise raised") + by(1, "begin raise raised")
BOWS = by(0, "yield") + by(1, "yield") + by(0, "lower lowered") + by(1, "lower lowered")
BOWS += by(0, "see") + by(1, "see") + by(0, "raise raised") + by(1, "raise raised")


def hands_of(manners):
    return range(len(manners[0]))


def alone(manners, hand):
    """The hand goes in, and once more, alone: the round is from behind "begin" to there again."""
    lap = len(manners[0]) + 2 + manners[0][hand].count("even")
    told = slowed(manners, (hand,) * (2 * lap))
    half = len(told) // 2
    return (told[:half + 1], told[half + 1:] + told[half:half + 1])


class SlowStalls(Case):
    def check(self, manners):
        ring = stuck_ring(manners)
        told = slow_stall(manners)
        self.same(told is None, ring is None)
        if told is not None:
            self.same(slowmodel.stall_error_of(manners, told), None, (manners, told))
            self.same(slow_stall_error(manners, told), None)
        return ring and (ring[0], len(ring[1]))

    def test_two(self):
        for manners in all_of_two():
            if is_safe(manners):
                self.check(manners)
            else:
                self.fails(Unfit(), slow_stall, manners)

    def test_each_ring(self):
        dice = random.Random(1301)
        seen = set()
        for words in KINDS * 10:
            seen.add(self.check(safe(dice, dice.randrange(2, 7), words)))
        for many in (3, 4, 5, 6):
            for chords in ("stand", "bow", "even"):
                seen.add(self.check(ring_of_bows(many, chords)))
        due = {None, ("bow", 2), ("bow", 3), ("bow", 4), ("bow", 5), ("bow", 6), ("wait", 2), ("wait", 3)}
        self.assertTrue(seen >= due, seen)

    def test_main_7(self):
        """There is a slow stall exactly if there is a stuck ring: by all that can come."""
        dice = random.Random(1303)
        found = all_of_two() + [safe(dice, 3, dice.choice(KINDS)) for _ in range(14)] + [MIXED, LATE, known("level", 3)]
        for manners in found:
            if is_safe(manners):
                graph = slowmodel.reached(manners)
                self.same(explore.can_stall(graph, OUT), stuck_ring(manners) is not None, manners)

    def test_unfit(self):
        for manners in many_manners(each=10, seed=1307):
            if not is_safe(manners):
                self.fails(Unfit(), slow_stall, manners)

    def test_kept(self):
        for manners in (MEEK, LATE, TWO, known("meek", 3)):
            self.keeps(slow_stall, manners)
        self.keeps(slow_stall_error, ROW, DAZED)
        self.keeps(slow_stall_error, ROW, [list(DAZED[0]), {1: 2}])


class SlowStallErrors(Case):
    def test_form(self):
        for value in odd_values() + [MEEK, BLIND]:
            due = "rest" if value == ((), ()) else "form"
            self.same(slow_stall_error(MEEK, value), due, value)
            self.same(slow_keeping_error(MEEK, 1, value), due, value)
        for item in (
            (2, "begin"), (-1, "begin"), (True, "begin"), (None, "begin"), ("0", "begin"), (0, None), (0, 1),
            (0, ("begin",)),
            (0,), (), (0, "begin", 0), [0, "begin"], 0, "begin", None, (0, b"begin"), ((0, "begin"),), {0: "begin"},
        ):
            for value in (((item,), ()), ((), (item,)), (LOOKS + (item,), BOWS), (LOOKS, BOWS + (item,))):
                self.same(slow_stall_error(MEEK, value), "form", value)
                self.same(slow_keeping_error(MEEK, 0, value), "form", value)
        for value in ((list(LOOKS), BOWS), (LOOKS, list(BOWS)), [LOOKS, BOWS], (LOOKS, BOWS, ()), (LOOKS,), LOOKS):
            self.same(slow_stall_error(MEEK, value), "form")
            self.same(slow_keeping_error(MEEK, 0, value), "form")

    def test_length(self):
        """Slow runs of just 1500 pairs, and of one more."""
        self.assertEqual(len(BOWS), 12)
        for call in (slow_stall_error, lambda manners, value: slow_keeping_error(manners, 0, value)):
            self.same(call(MEEK, (LOOKS, BOWS * 125)), None)
            self.same(call(MEEK, (LOOKS, BOWS * 125 + BOWS[:1])), "form")
            self.same(call(MEEK, (LOOKS + BOWS * 124, BOWS)), None)
            self.same(call(MEEK, (LOOKS + BOWS * 124 + BOWS[:6], ())), ("hand", 0))
            self.same(call(MEEK, (LOOKS + BOWS * 124 + BOWS[:7], ())), "form")

    def test_each_word(self):
        for manners, value, due in (
            (MEEK, (LOOKS, BOWS), None),
            (MEEK, (LOOKS + by(0, "look"), BOWS), ("run", 6)),
            (MEEK, (LOOKS + by(0, "wait"), BOWS), ("run", 6)),
            (ROW, (LOOKS + by(0, "wait"), ()), ("run", 6)),
            (MEEK, (by(0, "begin raise raised enter"), ()), "within"),
            (MEEK, (by(0, "begin raise raised enter leave left"), ()), "rest"),
            (MEEK, (LOOKS, BOWS[:3] + by(1, "see")), ("round", 3)),
            (ROW, (LOOKS, by(0, "wait")), ("round", 0)),
            (MEEK, (BEGUN, by(1, "begin")), ("word", 0)),
            (MEEK, (by(0, "begin raise raised"), by(0, "enter leave left begin")), ("word", 0)),
            (
                MEEK, (by(0, "begin raise raised enter leave") + by(1, "begin"), by(1, "raise") + by(0, "left")),
                ("word", 1),
            ),
            (MEEK, (LOOKS, BOWS[:-1]), "back"),
            (MEEK, (LOOKS, ()), ("hand", 0)),
            (ROW, DAZED, ("hand", 0)),
            (MEEK, (by(0, "begin raise raised enter leave"), ()), ("hand", 0)),
            (MEEK, (by(1, "begin raise raised"), ()), ("hand", 1)),
            (known("proud", 2), (LOOKS, ()), None),
        ):
            self.same(slow_stall_error(manners, value), due, value)
            self.same(slowmodel.stall_error_of(manners, value), due, value)

    def test_several_at_once(self):
        for manners, value, due in (
            # A wrong pair, and it is within or rests behind what comes ahead of it.
            (MEEK, (by(0, "begin raise raised enter wait"), ()), ("run", 4)),
            (MEEK, (by(0, "wait"), by(0, "wait")), ("run", 0)),
            (MEEK, (by(0, "begin raise raised enter"), by(0, "wait")), "within"),
            (MEEK, ((), by(0, "wait")), "rest"),
            (MEEK, ((), by(0, "begin")), "rest"),
            # A word that may not be there, and behind it one that cannot be.
            (MEEK, (BEGUN, by(1, "begin wait")), ("round", 1)),
            # Such a word, and no way back.
            (MEEK, (BEGUN, by(0, "raised") + by(1, "begin")), ("word", 1)),
            # No way back, and an idle hand.
            (MEEK, (LOOKS, by(0, "yield")), "back"),
        ):
            self.same(slow_stall_error(manners, value), due, value)
            self.same(slowmodel.stall_error_of(manners, value), due, value)

    def test_waits_by_one_sight(self):
        """To have "wait" among two words is enough."""
        proud = known("proud", 2)
        run = by(1, "begin raise raised") + BEGUN
        # 1 may see the flag of 0 up: it waits; but 0 brings its change not to an end.
        self.same(slow_stall_error(proud, (run, ())), ("hand", 0))
        self.same(slowmodel.stall_error_of(proud, (run, ())), ("hand", 0))
        third = (
            (("-", "stand", "stand"), ("stand", "-", "stand"), ("stand", "stand", "-")), ((1, 2), (2, 0), (0, 1)), (),
        )
        run = by(0, "begin raise raised") + by(1, "begin raise raised")
        self.same(slow_stall_error(third, (run, ())), ("hand", 1))

    def test_changed(self):
        dice = random.Random(1319)
        seen = set()
        for _ in range(150):
            manners = safe(dice, dice.choice((2, 2, 3, 4)), dice.choice(KINDS))
            value = slow_stall(manners)
            if value is None:
                run = slowmodel.random_run(dice, manners, start(manners), dice.randrange(20))
                here = slow_behind(manners, start(manners), run)
                value = (run, slowmodel.random_run(dice, manners, here, dice.randrange(5)))
            for _ in range(4):
                other = slowmodel.changed_pair(dice, manners, value)
                due = slowmodel.stall_error_of(manners, other)
                self.same(slow_stall_error(manners, other), due, (manners, other))
                seen.add(due[0] if isinstance(due, tuple) else due)
        self.assertEqual(seen, {None, "form", "run", "within", "rest", "round", "word", "back", "hand"})

    def test_any_manners(self):
        dice = random.Random(1321)
        for manners in many_manners(each=20, seed=1321):
            run = slowmodel.random_run(dice, manners, start(manners), dice.randrange(12))
            here = slow_behind(manners, start(manners), run)
            value = (run, slowmodel.random_run(dice, manners, here, dice.randrange(4)))
            self.same(slow_stall_error(manners, value), slowmodel.stall_error_of(manners, value))
            for hand in hands_of(manners):
                due = slowmodel.keeping_error_of(manners, hand, value)
                self.same(slow_keeping_error(manners, hand, value), due)


class SlowKeepings(Case):
    def check(self, manners):
        is_fit = is_safe(manners) and is_never_stuck(manners)
        for hand in hands_of(manners):
            if not is_fit:
                self.fails(Unfit(), slow_keeping, manners, hand)
                continue
            told = slow_keeping(manners, hand)
            self.same(told is not None, "bow" in manners[0][hand])
            if told is not None:
                self.same(slowmodel.keeping_error_of(manners, hand, told), None, (manners, told))
                self.same(slow_keeping_error(manners, hand, told), None)
        return is_fit

    def test_many(self):
        dice = random.Random(1327)
        for manners in all_of_two():
            self.check(manners)
        seen = set()
        for many in (3, 4, 5, 6):
            for _ in range(12):
                seen.add(self.check(ranked_but(dice, many, dice.randrange(4))))
                seen.add(self.check(random_manners(dice, many)))
            self.same(self.check(known("ranked", many)), True)
            self.same(self.check(known("ranked", many)[:2] + ((0,),)), True)
        self.assertEqual(seen, {True, False})

    def test_main_7(self):
        """There is a slow keeping of a hand exactly if it bows to some hand: by all that can come."""
        dice = random.Random(1361)
        found = [manners for manners in all_of_two() if is_safe(manners) and is_never_stuck(manners)] + [MIXED]
        while len(found) < 16:
            manners = ranked_but(dice, 3, dice.randrange(3))
            if is_never_stuck(manners):
                found.append(manners)
        for manners in found:
            graph = slowmodel.reached(manners)
            for hand in hands_of(manners):
                due = explore.can_keep_out(graph, hand)
                self.same("bow" in manners[0][hand], due, (manners, hand))
                self.same(slow_keeping(manners, hand) is not None, due)

    def test_each_word(self):
        kept = (by(0, "begin raise raised enter") + by(1, "begin raise raised yield lower lowered"),
                by(0, "leave left begin raise raised enter"))
        for hand, value, due in (
            (1, kept, None),
            (0, kept, "within"),
            (1, (kept[0] + by(1, "wait"), ()), ("run", 10)),
            (1, (kept[0][:4], ()), "rest"),
            (1, (kept[0], by(1, "see")), ("round", 0)),
            (1, (kept[0], by(0, "leave") + by(1, "wait")), ("round", 1)),
            (1, (by(1, "begin raise raised"), by(1, "enter leave left begin raise raised")), ("word", 0)),
            (1, (by(1, "begin raise raised enter leave"), by(1, "left")), "back"),
            (1, (by(1, "begin raise raised enter leave"), ()), ("hand", 1)),
            (1, (kept[0], kept[1][:3]), "back"),
            (1, (kept[0], ()), ("hand", 0)),
            (1, DAZED, ("hand", 0)),
            (0, DAZED, ("hand", 0)),
        ):
            self.same(slow_keeping_error(ROW, hand, value), due, (hand, value))
            self.same(slowmodel.keeping_error_of(ROW, hand, value), due, (hand, value))

    def test_several_at_once(self):
        looks = by(1, "begin raise raised")
        for hand, value, due in (
            (0, (by(0, "wait"), ()), ("run", 0)),
            (0, ((), by(0, "wait")), "rest"),
            (0, (by(0, "begin raise raised enter"), by(0, "wait")), "within"),
            (1, (looks, by(1, "enter leave wait")), ("round", 2)),
            (1, (looks, by(1, "enter leave left")), ("word", 0)),
            (1, (by(0, "begin") + looks, by(0, "raise")), "back"),
        ):
            self.same(slow_keeping_error(ROW, hand, value), due, (hand, value))

    def test_words_of_the_hand_alone(self):
        """Others begin, go in and leave in the round; the hand may do other steps in it."""
        both = (
            by(1, "begin raise raised") + BEGUN,
            by(1, "yield lower lowered") + by(0, "raised enter leave left begin raise") + by(1, "see raise raised"),
        )
        self.same(slowmodel.keeping_error_of(ROW, 1, both), None)
        self.same(slow_keeping_error(ROW, 1, both), None)
        self.same(slow_keeping_error(ROW, 0, both), ("word", 4))

    def test_stalls_are_keepings(self):
        for manners in (MEEK, LATE, known("level", 3), known("meek", 3), ring_of_bows(4)):
            value = slow_stall(manners)
            here = slow_behind(manners, start(manners), value[0])
            for hand in hands_of(manners):
                due = "rest" if here[0][hand] == model.REST else None
                self.same(slow_keeping_error(manners, hand, value), due)

    def test_changed(self):
        dice = random.Random(1367)
        seen = set()
        for _ in range(90):
            manners = ranked_but(dice, dice.choice((2, 3, 4)), dice.randrange(3))
            for hand in hands_of(manners):
                value = slow_keeping(manners, hand) if is_never_stuck(manners) else None
                value = value or alone(manners, hand)
                for _ in range(3):
                    other = slowmodel.changed_pair(dice, manners, value)
                    due = slowmodel.keeping_error_of(manners, hand, other)
                    self.same(slow_keeping_error(manners, hand, other), due, (manners, hand, other))
                    seen.add(due[0] if isinstance(due, tuple) else due)
        self.assertEqual(seen, {None, "form", "run", "within", "rest", "round", "word", "back", "hand"})

    def test_unfit(self):
        for manners in (BLIND, LATE, MEEK, known("proud", 3), (TWO[0], TWO[1], (0,))):
            for hand in hands_of(manners):
                self.fails(Unfit(), slow_keeping, manners, hand)

    def test_kept(self):
        for hand in hands_of(MIXED):
            self.keeps(slow_keeping, MIXED, hand)
            self.keeps(slow_keeping_error, MIXED, hand, DAZED)


if __name__ == "__main__":
    unittest.main()
