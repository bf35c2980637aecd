"""[M3] to [M5]: bowstands.dropstalls."""

import random
import unittest

from bowstands.aparts import is_safe
from bowstands.drops import drop_behind
from bowstands.dropstalls import drop_keeping, drop_keeping_error, drop_stall_error
from bowstands.errors import Unfit
from bowstands.keepouts import can_be_kept_out, keeping
from bowstands.kinds import known
from bowstands.stalls import is_never_stuck, stall, stuck_ring
from bowstands.standings import start
from tests import dropmodel, explore, model
from tests.support import MIXED, TWO, Case, all_of_two, many_manners, odd_values, random_manners
from tests.test_stalls import KINDS, ranked_but, ring_of_bows, safe

LATE = (MIXED[0], ((2, 1), (0, 2), (1, 0)), ())
BLIND = ((("-", "pass"), ("stand", "-")), ((1,), (0,)), ())
MEEK = known("meek", 2)
JAM = ((2, 2, 2, 1, 1, 1, 1, 0, 0, 0, 2, 0, 2), ())
BOWS = ((0, 0, 1, 1), (0, 1, 0, 1, 0, 1, 0, 1))
GAVE_UP = ((0, "go"), (0, "drop"))


def going(run):
    """The broken run of a run."""
    return tuple((hand, "go") for hand in run)


SHY = (going((1, 1, 0, 0, 0)), ((1, "drop"), (1, "go"), (1, "go")))


def hands_of(manners):
    return range(len(manners[0]))



class DropStalls(Case):
    def test_of_stalls(self):
        """A stall is one, also behind somebody's giving up; not if somebody gives up behind it."""
        dice = random.Random(1601)
        found = 0
        for words in KINDS * 8:
            manners = safe(dice, dice.randrange(2, 7), words)
            value = stall(manners)
            if value is None:
                continue
            found += 1
            run, again = going(value[0]), value[1]
            self.same(drop_stall_error(manners, (run, again)), None)
            # Who gave up at its wish has changed nothing.
            self.same(drop_stall_error(manners, (GAVE_UP + run, again)), None)
            hand = value[0][-1]
            spoilt = (run + ((hand, "drop"),), again)
            self.same(drop_stall_error(manners, spoilt), dropmodel.stall_error_of(manners, spoilt))
        self.assertGreater(found, 15)

    def test_main_9(self):
        """There is such a pair exactly if there is a stuck ring: by all that can come."""
        dice = random.Random(1607)
        found = [manners for manners in all_of_two() if is_safe(manners)] + [MIXED, LATE, known("level", 3)]
        found += [safe(dice, 3, dice.choice(KINDS)) for _ in range(20)]
        for manners in found:
            graph = dropmodel.reached(manners)
            # In the round nobody gives up: who does not move by going is barred.
            going_on = {one: [edge for edge in graph[one] if edge[1] != "drop"] for one in graph}
            self.same(explore.can_stall(going_on), stuck_ring(manners) is not None, manners)

    def test_form(self):
        for value in odd_values() + [MEEK, BLIND]:
            self.same(drop_stall_error(MEEK, value), "rest" if value == ((), ()) else "form", value)
        for item in (
            (2, "go"), (-1, "go"), (True, "go"), (None, "go"), ("0", "go"), (0, "jump"), (0, "Go"), (0, None), (0, ""),
            (0,), (0, "go", 0), [0, "go"], 0, "go", (), None, (0, b"go"), ((0, "go"),), (0, ("go",)), (0, "enter"),
        ):
            self.same(drop_stall_error(MEEK, (going(BOWS[0]) + (item,), BOWS[1])), "form", item)
            self.same(drop_stall_error(MEEK, ((item,), ())), "form", item)
        for value in (
            BOWS, (going(BOWS[0]), going(BOWS[1])), (BOWS[0], going(BOWS[1])), [going(BOWS[0]), BOWS[1]],
            (going(BOWS[0]),), (list(going(BOWS[0])), BOWS[1]), (going(BOWS[0]), list(BOWS[1])),
            (going(BOWS[0]), BOWS[1], ()),
            (going(BOWS[0]), BOWS[1] + (2,)), (going(BOWS[0]), BOWS[1] + (True,)), (going(BOWS[0]), (None,)),
        ):
            self.same(drop_stall_error(MEEK, value), "form", value)

    def test_length(self):
        """Broken runs of just 900 pairs, and of one more; rounds likewise."""
        run = GAVE_UP * 448 + going(BOWS[0])
        self.assertEqual(len(run), 900)
        self.same(drop_stall_error(MEEK, (run, BOWS[1])), None)
        self.same(drop_stall_error(MEEK, (run + going((0,)), ())), "form")
        self.same(drop_stall_error(MEEK, (run + ((0, "drop"),), ())), "form")
        self.same(drop_stall_error(MEEK, (run, BOWS[1] * 112)), None)
        self.same(drop_stall_error(MEEK, (run, BOWS[1] * 112 + BOWS[1][:4])), "back")
        self.same(drop_stall_error(MEEK, (run, BOWS[1] * 112 + BOWS[1][:5])), "form")
        self.same(drop_stall_error(LATE, (going(JAM[0]) + ((0, "drop"),) * 888, ())), "form")

    def test_each_word(self):
        bows = going(BOWS[0])
        for value, due in (
            ((bows, BOWS[1]), None),
            ((((0, "drop"),), ()), ("run", 0)),
            ((bows + ((1, "drop"), (1, "drop")), ()), ("run", 5)),
            ((going((0, 0, 1, 1, 0, 0, 0)), ()), ("run", 6)),
            ((going((0, 0, 0)), ()), "within"),
            ((GAVE_UP, ()), "rest"),
            ((going((0, 0, 0)) + ((0, "drop"),), ()), "rest"),
            ((bows, (0, 0, 0)), ("round", 2)),
            ((bows, (0, 0, 1)), ("word", 2)),
            ((bows, (0,)), "back"),
            ((bows, ()), ("hand", 0)),
            ((bows + ((0, "drop"),), ()), ("hand", 1)),
        ):
            self.same(drop_stall_error(MEEK, value), due, value)
            self.same(dropmodel.stall_error_of(MEEK, value), due, value)

    def test_several_at_once(self):
        for value, due in (
            ((going((0, 0, 0)) + ((1, "drop"),), ()), ("run", 3)),
            ((((0, "drop"),), (0, 0, 0)), ("run", 0)),
            ((going((0, 0, 0)), (1, 1, 1, 1)), "within"),
            (((), (0, 0, 0)), "rest"),
            ((going(BOWS[0]), (0, 0, 1, 0, 0)), ("round", 3)),
            ((going(BOWS[0]), (0, 0, 1)), ("word", 2)),
            ((going((0, 0)), (0,)), ("word", 0)),
            ((going(BOWS[0]), (0, 0)), "back"),
        ):
            self.same(drop_stall_error(MEEK, value), due, value)
            self.same(dropmodel.stall_error_of(MEEK, value), due, value)

    def test_changed(self):
        dice = random.Random(1609)
        seen = set()
        for _ in range(200):
            manners = safe(dice, dice.choice((2, 2, 3, 4)), dice.choice(KINDS))
            value = stall(manners)
            run, again = (going(value[0]), value[1]) if value else (
                dropmodel.random_run(dice, manners, start(manners), dice.randrange(15)), (0, 1))
            for _ in range(3):
                other = (dropmodel.changed(dice, manners, run), dropmodel.changed(dice, manners, again))
                other = dice.choice((other, (run, other[1]), (other[0], again)))
                due = dropmodel.stall_error_of(manners, other)
                self.same(drop_stall_error(manners, other), due, (manners, other))
                seen.add(due[0] if isinstance(due, tuple) else due)
        self.assertTrue(seen >= {None, "form", "run", "rest", "round", "word", "back", "hand"}, seen)


class DropKeepings(Case):
    def check(self, manners):
        for hand in hands_of(manners):
            if not is_safe(manners):
                self.fails(Unfit(), drop_keeping, manners, hand)
                continue
            told = drop_keeping(manners, hand)
            self.same(dropmodel.keeping_error_of(manners, hand, told), None, (manners, hand, told))
            self.same(drop_keeping_error(manners, hand, told), None)

    def test_main_10(self):
        dice = random.Random(1613)
        for manners in all_of_two():
            self.check(manners)
        for many in (3, 4, 5, 6):
            for words in KINDS * 4:
                self.check(safe(dice, many, words))
            for _ in range(8):
                self.check(random_manners(dice, many))
            self.check(known("ranked", many)[:2] + ((0, many - 1),))
            self.check(known("level", many))
            self.check(ring_of_bows(many))

    def test_without_drop(self):
        """Without "drop" in the round there is one exactly if the hand bows to some hand."""
        dice = random.Random(1619)
        found = [manners for manners in all_of_two() if is_safe(manners) and is_never_stuck(manners)] + [MIXED]
        while len(found) < 14:
            manners = ranked_but(dice, 3, dice.randrange(3))
            if is_never_stuck(manners):
                found.append(manners)
        for manners in found:
            graph = dropmodel.reached(manners)
            going_on = {one: [edge for edge in graph[one] if edge[1] != "drop"] for one in graph}
            for hand in hands_of(manners):
                self.same(explore.can_keep_out(going_on, hand), can_be_kept_out(manners, hand), (manners, hand))
                told = keeping(manners, hand)
                if told is not None:
                    self.same(drop_keeping_error(manners, hand, (going(told[0]), going(told[1]))), None)

    def test_form(self):
        for value in odd_values() + [MEEK, BLIND]:
            self.same(drop_keeping_error(TWO, 0, value), "rest" if value == ((), ()) else "form", value)
        for item in (
            (2, "go"), (-1, "go"), (True, "go"), (None, "go"), (0, "jump"), (0, "Drop"), (0, None), (0,), (0, "go", 0),
            [0, "go"], 0, "go", (), None, ((0, "go"),), (0, ("go",)),
        ):
            self.same(drop_keeping_error(TWO, 0, (SHY[0] + (item,), SHY[1])), "form", item)
            self.same(drop_keeping_error(TWO, 0, (SHY[0], SHY[1] + (item,))), "form", item)
        for value in (
            list(SHY), SHY[:1], SHY + ((),), (list(SHY[0]), SHY[1]), (SHY[0], list(SHY[1])), JAM, (SHY[0], (1, 1)),
        ):
            self.same(drop_keeping_error(TWO, 0, value), "form", value)

    def test_length(self):
        self.same(drop_keeping_error(TWO, 0, (SHY[0], SHY[1] * 300)), None)
        self.same(drop_keeping_error(TWO, 0, (SHY[0], SHY[1] * 300 + SHY[1][:1])), "form")
        run = SHY[0] + SHY[1] * 298
        self.assertEqual(len(run), 899)
        self.same(drop_keeping_error(TWO, 0, (run, SHY[1])), None)
        self.same(drop_keeping_error(TWO, 0, (run + ((1, "drop"),), ((1, "go"), (1, "go"), (1, "drop")))), None)
        self.same(drop_keeping_error(TWO, 0, (run + SHY[1][:2], SHY[1])), "form")

    def test_each_word(self):
        for hand, value, due in (
            (0, SHY, None),
            (0, (SHY[0] + ((0, "go"),), ()), ("run", 5)),
            (0, (((0, "drop"),), ()), ("run", 0)),
            (0, (SHY[0] + ((0, "drop"),), SHY[1]), "rest"),
            (0, (going((0, 0, 0, 0)), ()), "within"),
            (0, (SHY[0], ((0, "go"),)), ("round", 0)),
            (0, (SHY[0], ((1, "drop"), (1, "drop"))), ("round", 1)),
            (0, (SHY[0], ((0, "drop"),)), ("word", 0)),
            (0, (SHY[0], ((1, "drop"), (0, "go"), (0, "go"))), ("word", 1)),
            (1, SHY, ("word", 0)),
            (0, (SHY[0], SHY[1][:2]), "back"),
            (0, (SHY[0], ()), ("hand", 1)),
            (0, (going((0,)), ()), ("hand", 0)),
        ):
            self.same(drop_keeping_error(TWO, hand, value), due, (hand, value))
            self.same(dropmodel.keeping_error_of(TWO, hand, value), due, (hand, value))

    def test_several_at_once(self):
        for hand, value, due in (
            # A wrong pair of the run, and it rests.
            (0, (((1, "drop"),), ()), ("run", 0)),
            # It rests, or is within, and the round has a wrong pair.
            (0, ((), ((1, "drop"),)), "rest"),
            (0, (going((0, 0, 0, 0)), ((1, "drop"),)), "within"),
            # A word, and a wrong pair behind it.
            (0, (SHY[0], ((0, "drop"), (0, "drop"))), ("round", 1)),
            # A word, and no way back; giving up comes ahead of going in.
            (0, (SHY[0], ((1, "drop"), (0, "drop"), (0, "go"))), ("word", 1)),
            # It gives up, and comes back to where it was: still it may not.
            (0, (going((0, 0)), ((0, "drop"), (0, "go"), (0, "go"))), ("word", 0)),
            (0, (SHY[0], ((1, "drop"),)), "back"),
        ):
            self.same(drop_keeping_error(TWO, hand, value), due, (hand, value))
            self.same(dropmodel.keeping_error_of(TWO, hand, value), due, (hand, value))

    def test_leaving(self):
        """The first pair by which the hand gives up, goes in or leaves, whichever it is."""
        run = going((0,))
        lap = going((0, 0, 0, 0, 0))
        for again, due in (
            (lap, ("word", 2)), (((0, "drop"),) + lap, ("word", 0)), (lap[:1] + ((0, "drop"),), ("word", 1)),
            (lap[:3] + ((0, "drop"), (0, "go")), ("word", 2)),
        ):
            self.same(drop_keeping_error(TWO, 0, (run, again)), due)
            self.same(dropmodel.keeping_error_of(TWO, 0, (run, again)), due)

    def test_who_gives_up_makes_a_step(self):
        """A hand that gives up in the round, and begins again, is not idle."""
        three = known("proud", 3)
        run = going((1, 1, 2, 0, 0))
        again = ((2, "drop"), (2, "go"))
        self.same(drop_keeping_error(three, 0, (run, again)), None)
        self.same(drop_keeping_error(three, 0, (run, ())), ("hand", 2))
        # Who is at its wish for all of the round is idle.
        run = going((1, 2, 2, 0, 0, 0))
        again = ((2, "drop"), (2, "go"), (2, "go"))
        self.same(dropmodel.keeping_error_of(three, 0, (run, again)), ("hand", 1))
        self.same(drop_keeping_error(three, 0, (run, again)), ("hand", 1))

    def test_changed(self):
        dice = random.Random(1621)
        seen = set()
        for _ in range(120):
            manners = safe(dice, dice.choice((2, 3, 4)), dice.choice(KINDS))
            hand = dice.randrange(len(manners[0]))
            value = drop_keeping(manners, hand)
            for _ in range(4):
                other = tuple(dropmodel.changed(dice, manners, run) for run in value)
                other = dice.choice((other, (value[0], other[1]), (other[0], value[1])))
                asked = dice.choice((hand, hand, dice.randrange(len(manners[0]))))
                due = dropmodel.keeping_error_of(manners, asked, other)
                self.same(drop_keeping_error(manners, asked, other), due, (manners, asked, other))
                seen.add(due[0] if isinstance(due, tuple) else due)
        self.assertTrue(seen >= {None, "form", "run", "rest", "round", "word", "back", "hand"}, seen)

    def test_any_manners(self):
        dice = random.Random(1627)
        for manners in many_manners(each=15, seed=1627):
            run = dropmodel.random_run(dice, manners, start(manners), dice.randrange(20))
            here = drop_behind(manners, start(manners), run)
            again = dropmodel.random_run(dice, manners, here, dice.randrange(6))
            for hand in hands_of(manners):
                due = dropmodel.keeping_error_of(manners, hand, (run, again))
                self.same(drop_keeping_error(manners, hand, (run, again)), due)
            moves = model.random_run(dice, manners, here, dice.randrange(6))
            self.same(drop_stall_error(manners, (run, moves)), dropmodel.stall_error_of(manners, (run, moves)))

    def test_unfit(self):
        for manners in (BLIND, (TWO[0], TWO[1], (0,)), ((("-", "slip"), ("stand", "-")), ((1,), (0,)), ())):
            for hand in (0, 1):
                self.fails(Unfit(), drop_keeping, manners, hand)

    def test_kept(self):
        for hand in hands_of(LATE):
            self.keeps(drop_keeping, LATE, hand)
        self.keeps(drop_keeping_error, TWO, 0, SHY)
        self.keeps(drop_stall_error, LATE, (going(JAM[0]), ()))


if __name__ == "__main__":
    unittest.main()
