"""[H2] to [H5]: bowstands.keepouts."""

import random
import unittest

from bowstands.aparts import is_safe
from bowstands.errors import Unfit
from bowstands.keepouts import can_be_kept_out, keeping, keeping_error, most_passed
from bowstands.kinds import known
from bowstands.manners import evens, renamed
from bowstands.stalls import is_never_stuck, stall
from tests import explore, loopmodel, model
from tests.support import MIXED, TWO, Case, all_of_two, many_manners, odd_values, random_manners
from tests.tables import free_table
from tests.test_stalls import KINDS, ranked_but, safe

LATE = (MIXED[0], ((2, 1), (0, 2), (1, 0)), ())
BLIND = ((("-", "pass"), ("stand", "-")), ((1,), (0,)), ())
MEEK = known("meek", 2)
OUT = ((0, 0, 1, 1, 1, 1, 1, 0, 0, 0), (0, 0, 0, 0, 0, 0))
JAM = ((2, 2, 2, 1, 1, 1, 1, 0, 0, 0, 2, 0, 2), ())


def hands_of(manners):
    return range(len(manners[0]))


class Keepings(Case):
    def check(self, manners):
        """What is due of manners that may be any; returns whether they are safe and never stuck."""
        is_fit = is_safe(manners) and is_never_stuck(manners)
        for hand in hands_of(manners):
            if not is_fit:
                self.fails(Unfit(), can_be_kept_out, manners, hand)
                self.fails(Unfit(), keeping, manners, hand)
                continue
            due = "bow" in manners[0][hand]
            told = keeping(manners, hand)
            self.same(can_be_kept_out(manners, hand), due)
            self.same(told is not None, due)
            if due:
                self.same(loopmodel.keeping_error_of(manners, hand, told), None, (manners, hand, told))
                self.same(keeping_error(manners, hand, told), None)
        return is_fit

    def test_two(self):
        for manners in all_of_two():
            self.check(manners)

    def test_many(self):
        dice = random.Random(457)
        for many in (3, 4, 5, 6):
            seen = set()
            for _ in range(25):
                seen.add(self.check(ranked_but(dice, many, dice.randrange(5))))
                seen.add(self.check(random_manners(dice, many)))
                seen.add(self.check(safe(dice, many)))
            self.assertEqual(seen, {True, False})

    def test_early_ones_without_even_ones(self):
        for many in (2, 3, 5):
            self.same(self.check(known("ranked", many)[:2] + ((0, many - 1),)), True)

    def test_main_5(self):
        """There is a keeping exactly if the hand bows to some hand: by all that can come."""
        dice = random.Random(461)
        found = [manners for manners in all_of_two() if is_safe(manners) and is_never_stuck(manners)]
        while len(found) < 30:
            manners = ranked_but(dice, 3, dice.randrange(4))
            if is_never_stuck(manners):
                found.append(manners)
        for manners in found:
            graph = explore.reached(manners)
            for hand in hands_of(manners):
                due = explore.can_keep_out(graph, hand)
                self.same(can_be_kept_out(manners, hand), due, (manners, hand))
                self.same(keeping(manners, hand) is not None, due)

    def test_who_can(self):
        """Somebody bows to nobody; of three or more somebody bows; of two even ones nobody does."""
        dice = random.Random(463)
        for many in (3, 4, 5, 6):
            for _ in range(20):
                manners = ranked_but(dice, many, dice.randrange(5))
                if is_never_stuck(manners):
                    told = [can_be_kept_out(manners, hand) for hand in hands_of(manners)]
                    self.assertEqual(set(told), {True, False})
        self.same([can_be_kept_out(TWO, hand) for hand in (0, 1)], [False, False])
        self.same([can_be_kept_out(known("ranked", 2), hand) for hand in (0, 1)], [False, True])

    def test_renamed(self):
        dice = random.Random(467)
        for many in (2, 3, 4, 5, 6):
            for _ in range(6):
                manners = ranked_but(dice, many)
                row = tuple(dice.sample(range(many), many))
                other = renamed(manners, row)
                for hand in hands_of(manners):
                    self.same(most_passed(other, row[hand]), most_passed(manners, hand))
                    if is_never_stuck(manners):
                        self.same(can_be_kept_out(other, row[hand]), can_be_kept_out(manners, hand))


class KeepingErrors(Case):
    def test_form(self):
        for value in odd_values():
            if value not in (((), ()), TWO[1]):
                self.same(keeping_error(MEEK, 0, value), "form", value)
        for hand in (3, -1, True, False, None, "0", (0,), 10 ** 300):
            self.same(keeping_error(MIXED, 1, (OUT[0] + (hand,), ())), "form")
            self.same(keeping_error(MIXED, 1, (OUT[0], (hand,))), "form")
        for value in ((list(OUT[0]), OUT[1]), (OUT[0], list(OUT[1])), list(OUT), OUT + ((),), OUT[:1]):
            self.same(keeping_error(MIXED, 1, value), "form")

    def test_length(self):
        self.same(keeping_error(MIXED, 1, (OUT[0], OUT[1] * 150)), None)
        self.same(keeping_error(MIXED, 1, (OUT[0], OUT[1] * 150 + (0,))), "form")
        self.same(keeping_error(MIXED, 1, (OUT[0] + OUT[1] * 148, OUT[1])), None)
        self.same(keeping_error(MIXED, 1, (OUT[0] + OUT[1] * 149, OUT[1])), "form")

    def test_each_word(self):
        for hand, value, due in (
            (1, OUT, None),
            (0, OUT, "within"),
            (2, OUT, "rest"),
            (1, ((0, 0, 0, 0, 1, 1, 1, 1, 1, 1), ()), ("run", 9)),
            (1, (OUT[0], (1,)), ("round", 0)),
            (1, (OUT[0], (0, 0, 0, 0, 1)), ("round", 4)),
            (1, ((1, 1, 1), (1, 1)), ("word", 1)),
            (1, (OUT[0], (0, 1)), "back"),
            (1, (OUT[0], ()), ("hand", 0)),
            (1, (OUT[0] + (2,), OUT[1]), ("hand", 2)),
            (1, ((1,), ()), ("hand", 1)),
        ):
            self.same(keeping_error(MIXED, hand, value), due, value)
            self.same(loopmodel.keeping_error_of(MIXED, hand, value), due, value)

    def test_several_at_once(self):
        # A hand that is barred in the run, and the hand rests or is within.
        self.same(keeping_error(MIXED, 2, (OUT[0] + (1,), ())), ("run", 10))
        # It rests, it is within: and the round has a hand that is barred.
        self.same(keeping_error(MIXED, 2, (OUT[0], (1,))), "rest")
        self.same(keeping_error(MIXED, 0, (OUT[0], (1,))), "within")
        # A word, and a hand that is barred behind it; a word, and no way back.
        self.same(keeping_error(MIXED, 1, ((1, 1, 1), (1, 1, 0, 0, 0, 0, 0))), ("round", 6))
        self.same(keeping_error(MIXED, 1, ((1, 1, 1), (1, 1, 0))), ("word", 1))
        self.same(keeping_error(MIXED, 1, (OUT[0] + (2,), (2,))), "back")
        self.same(keeping_error(MIXED, 1, (OUT[0] + (2,), ())), ("hand", 0))

    def test_words_of_the_hand_alone(self):
        """Others go in and leave in the round, the hand does not."""
        self.same(keeping_error(MIXED, 1, OUT), None)
        self.same(keeping_error(MIXED, 1, ((1, 1, 1, 1), (1, 1))), ("word", 0))
        three = known("ranked", 3)
        run = (0, 0, 0, 0, 2, 2, 2, 2)
        self.same(keeping_error(three, 2, (run, (0, 0, 0, 0, 0))), None)
        self.same(keeping_error(three, 2, (run[:4] + (1,) + run[4:], (0, 0, 0, 0, 0))), ("hand", 1))
        waits = run[:4] + (1, 1, 1, 1) + run[4:]
        self.same(keeping_error(three, 2, (waits, (0, 0, 0, 0, 0))), None)
        self.same(keeping_error(three, 1, (waits, (0, 0, 0, 0, 0))), None)

    def test_who_rests_in_the_round(self):
        """A hand that rests at times need not be barred, nor one that makes a step."""
        three = known("ranked", 3)
        run = (0, 0, 0, 0, 2, 2, 2, 2)
        self.same(keeping_error(three, 2, (run, (0, 0, 0, 0, 0))), None)
        both = (run, (0, 1, 1, 1, 1, 1, 0, 0, 0, 0))
        self.same(keeping_error(three, 2, both), None)
        self.same(loopmodel.keeping_error_of(three, 2, both), None)

    def test_stalls_are_keepings(self):
        """A stall is a keeping of each hand that does not rest in it."""
        dice = random.Random(479)
        found = 0
        for words in KINDS * 6:
            manners = safe(dice, dice.randrange(2, 7), words)
            value = stall(manners)
            if value is None:
                continue
            here = loopmodel.gone(manners, loopmodel.first(manners), value[0])[-1][1]
            for hand, place in enumerate(here[0]):
                self.same(keeping_error(manners, hand, value), "rest" if place == model.REST else None)
                found += 1
        self.assertGreater(found, 60)
        self.same([keeping_error(LATE, hand, JAM) for hand in range(3)], [None] * 3)

    def test_changed(self):
        """Keepings in which something is otherwise, against the words told straight from the text."""
        dice = random.Random(487)
        seen = set()
        for many in (2, 3, 4, 6):
            for _ in range(14):
                manners = ranked_but(dice, many, dice.randrange(3))
                for hand in hands_of(manners):
                    value = (keeping(manners, hand) if is_never_stuck(manners) else None) or ((hand, hand, hand), ())
                    for _ in range(5):
                        other = loopmodel.changed_pair(dice, manners, value)
                        asked = dice.choice((hand, hand, dice.randrange(many)))
                        due = loopmodel.keeping_error_of(manners, asked, other)
                        self.same(keeping_error(manners, asked, other), due, (manners, asked, other))
                        seen.add(due[0] if isinstance(due, tuple) else due)
        self.assertEqual(seen, {None, "form", "run", "rest", "within", "round", "word", "back", "hand"})

    def test_any_manners(self):
        """Also by such as are not safe."""
        dice = random.Random(491)
        for manners in many_manners(each=12, seed=491):
            for _ in range(3):
                run = model.random_run(dice, manners, loopmodel.first(manners), dice.randrange(14))
                here = ([loopmodel.first(manners)] + [told[1] for told in loopmodel.gone(manners, loopmodel.first(manners), run)])[-1]
                again = model.random_run(dice, manners, here, dice.randrange(8))
                hand = dice.randrange(len(manners[0]))
                due = loopmodel.keeping_error_of(manners, hand, (run, again))
                self.same(keeping_error(manners, hand, (run, again)), due)

    def test_keeps(self):
        for hand in range(3):
            self.keeps(can_be_kept_out, MIXED, hand)
            self.keeps(keeping, MIXED, hand)
            self.keeps(most_passed, MIXED, hand)
            for value in (OUT, list(OUT), {1: 2}, None):
                self.keeps(keeping_error, MIXED, hand, value)


class MostPassed(Case):
    def test_many(self):
        dice = random.Random(499)
        seen = set()
        for manners in many_manners(each=12, seed=499) + [safe(dice, many, words) for many in (3, 4, 5, 6) for words in KINDS]:
            for hand in hands_of(manners):
                if not is_safe(manners):
                    self.fails(Unfit(), most_passed, manners, hand)
                    continue
                others = [other for other in hands_of(manners) if other != hand and manners[1][other][-1] != hand]
                self.same(most_passed(manners, hand), len(others) + len(evens(manners, hand)))
                seen.add(is_never_stuck(manners))
        self.assertEqual(seen, {True, False})

    def test_known(self):
        for many in range(2, 7):
            ranked = [most_passed(known("ranked", many), hand) for hand in range(many)]
            # All but the last one look at the last one last; the last one looks so at the one ahead of it.
            due = [many - 1] * (many - 2) + [many - 2, 0]
            self.same(ranked, due)
            level = [most_passed(known("level", many), hand) for hand in range(many)]
            self.same(level, [number + many - 1 for number in due])
        self.same(most_passed(LATE, 0), 2)
        self.fails(Unfit(), most_passed, BLIND, 0)
        self.fails(Unfit(), most_passed, BLIND, 1)

    def test_free_tables(self):
        dice = random.Random(503)
        for many in (3, 4, 5, 6):
            table = free_table(dice, many)
            orders = random_manners(dice, many)[1]
            for hand in range(many):
                due = sum(order.index(hand) < many - 2 for order in orders if hand in order)
                self.same(most_passed((table, orders, ()), hand), due + table[hand].count("even"))


if __name__ == "__main__":
    unittest.main()
