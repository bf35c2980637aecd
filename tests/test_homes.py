"""[F4] to [F6]: bowstands.homes."""

import random
import unittest

from bowstands.aparts import is_safe
from bowstands.errors import TooMany, Unfit
from bowstands.homes import home_bound, home_run, tries_most
from bowstands.kinds import known
from bowstands.manners import evens, renamed
from bowstands.rings import bow_ring
from bowstands.stalls import is_never_stuck, stall
from bowstands.standings import start
from tests import loopmodel, model
from tests.support import MIXED, TWO, Case, all_of_two, many_manners, random_manners
from tests.test_stalls import KINDS, ranked_but, safe

LATE = (MIXED[0], ((2, 1), (0, 2), (1, 0)), ())
MEEK = known("meek", 2)

# How many steps six that bow to one another make by these picks, if all are at wish.
WAYS_OF_SIX = (
    (899, "232144033511543201450444503212531451202004424504520310300004"),
    (900, "353201321355331125001425544315324150114001330323545122344"),
    (901, "411223051342021203321425225410120233052542150524204300204"),
)


def tries(manners, hand):
    row = manners[0][hand]
    if "bow" not in row:
        return 1
    return 2 + sum(tries(manners, other) for other, word in enumerate(row) if word == "bow")


def going_home(manners, standing, picks):
    """The run, and the standing behind it, by the steps of the model; None if it has more than 900 steps."""
    run = []
    while True:
        able = []
        for hand, place in enumerate(standing[0]):
            if place != model.REST and model.step_of(manners, standing, hand) is not None:
                able.append(hand)
        if not able:
            return tuple(run), standing
        if len(run) == 900:
            return None
        p = picks[len(run) % len(picks)]
        run.append(able[p % len(able)])
        standing = model.step_of(manners, standing, run[-1])[1]


def random_picks(dice):
    return tuple(dice.randrange(6) for _ in range(dice.choice((1, 2, 3, 7, 59, 60))))


class Bounds(Case):
    def test_sums(self):
        dice = random.Random(311)
        seen = set()
        for manners in all_of_two() + [safe(dice, many, words) for many in (3, 4, 5, 6) for words in KINDS * 2]:
            is_fit = is_safe(manners) and bow_ring(manners) is None
            seen.add(is_fit)
            many = len(manners[0])
            if is_fit:
                for hand in range(many):
                    self.same(tries_most(manners, hand), tries(manners, hand))
                parts = [tries(manners, hand) * (len(evens(manners, hand)) + many + 2) for hand in range(many)]
                self.same(home_bound(manners), sum(parts))
            else:
                self.fails(Unfit(), home_bound, manners)
                for hand in range(many):
                    self.fails(Unfit(), tries_most, manners, hand)
        self.assertEqual(seen, {True, False})

    def test_known(self):
        self.same([tries_most(known("ranked", 6), hand) for hand in range(6)], [1, 3, 6, 12, 24, 48])
        for many, due in ((2, 16), (3, 50), (4, 132), (5, 322), (6, 752)):
            self.same(home_bound(known("ranked", many)), due)
            self.same(home_bound(known("level", many)), many * (many - 1 + many + 2))
            self.same(home_bound(known("proud", many)), many * (many + 2))
            self.fails(Unfit(), home_bound, known("meek", many))
            self.fails(Unfit(), tries_most, known("meek", many), many - 1)

    def test_unfit(self):
        """What is not safe, though nobody bows; a ring of bows to which the hand does not belong."""
        blind = ((("-", "pass"), ("stand", "-")), ((1,), (0,)), ())
        hasty = (TWO[0], TWO[1], (0,))
        for manners in (blind, hasty):
            self.fails(Unfit(), tries_most, manners, 1)
            self.fails(Unfit(), home_bound, manners)
        rows = (("-", "stand", "stand"), ("stand", "-", "bow"), ("stand", "bow", "-"))
        self.fails(Unfit(), tries_most, (rows, MIXED[1], ()), 0)

    def test_stuck_ones(self):
        """A timely ring of waits does not matter here."""
        self.same([tries_most(LATE, hand) for hand in range(3)], [1, 3, 1])
        self.same(home_bound(LATE), 31)

    def test_greatest(self):
        """home_bound is 818 at most by manners that are never stuck."""
        dice = random.Random(313)
        for many in (4, 5, 6):
            for _ in range(60):
                manners = ranked_but(dice, many, dice.randrange(6))
                if is_never_stuck(manners):
                    self.assertLessEqual(home_bound(manners), 818)

    def test_renamed(self):
        dice = random.Random(317)
        for many in (2, 3, 4, 5, 6):
            for _ in range(8):
                manners = ranked_but(dice, many)
                row = tuple(dice.sample(range(many), many))
                self.same(home_bound(renamed(manners, row)), home_bound(manners))
                for hand in range(many):
                    self.same(tries_most(renamed(manners, row), row[hand]), tries_most(manners, hand))


class Ways(Case):
    def check(self, manners, standing, picks):
        due = going_home(manners, standing, picks)
        if due is None:
            self.fails(TooMany(900), home_run, manners, standing, picks)
            return None
        self.same(home_run(manners, standing, picks), due[0], (manners, standing, picks))
        return due

    def test_from_anywhere(self):
        """Any manners, standings that come of start and such that do not."""
        dice = random.Random(331)
        for manners in many_manners(each=12, seed=331):
            standings = [model.random_standing(dice, manners) for _ in range(2)]
            run = model.random_run(dice, manners, start(manners), 30)
            standings.append(loopmodel.gone(manners, start(manners), run)[-1][1])
            for standing in standings:
                self.check(manners, standing, random_picks(dice))

    def test_picks(self):
        three = known("proud", 3)
        standing = ((("in", 0),) * 3, ())
        for picks, due in (
            ((0,), (0, 1, 2)), ((1,), (1, 2, 0)), ((2,), (2, 0, 1)), ((3,), (0, 2, 1)), ((4,), (1, 0, 2)),
            ((5,), (2, 1, 0)), ((0, 1), (0, 2, 1)), ((1, 0), (1, 0, 2)), ((2, 1, 5), (2, 1, 0)),
            ((0, 0, 0, 5), (0, 1, 2)),
        ):
            self.same(home_run(three, standing, picks), due)
        # Behind the last pick the first one comes again.
        self.same(home_run(TWO, ((("wish", 0), ("wish", 0)), start(TWO)[1]), (0, 1)), (0, 1, 0, 1, 0, 0, 1, 1))
        self.same(home_run(TWO, ((("wish", 0), ("wish", 0)), start(TWO)[1]), (1, 0, 0)), (1, 0, 0, 1, 0, 0, 1, 1))

    def test_who_may_move(self):
        """Who rests does not begin; who is barred is not counted."""
        self.same(home_run(TWO, start(TWO), (5,)), ())
        self.same(home_run(MIXED, ((("rest", 0), ("in", 0), ("rest", 0)), start(MIXED)[1]), (5,)), (1,))
        # 1 waits for 0, 2 rests.
        standing = ((("in", 0), ("low", 0), ("rest", 0)), start(MIXED)[1])
        self.same(home_run(MIXED, standing, (1,))[:2], (0, 1))

    def test_too_many(self):
        """Two that bow for ever; the bound is just 900 steps."""
        standing = ((("look", 0), ("look", 0)), ())
        self.fails(TooMany(900), home_run, MEEK, standing, (0, 1))
        self.same(home_run(MEEK, standing, (0,)), (0, 0, 1, 1, 0, 0, 0, 0))
        # With 60 picks the two bow some time and then go home.
        seen = set()
        for number in range(45, 60):
            picks = (0, 1) * (number // 2) + (0,) * (60 - number // 2 * 2)
            due = self.check(MEEK, standing, picks)
            seen.add(due is None)
        self.assertIn(False, seen)

    def test_just_as_many(self):
        """899, 900 and 901 steps, by six that bow to one another."""
        six = known("meek", 6)
        standing = ((("wish", 0),) * 6, ())
        for steps, figures in WAYS_OF_SIX:
            picks = tuple(int(figure) for figure in figures)
            if steps > 900:
                self.fails(TooMany(900), home_run, six, standing, picks)
            else:
                self.same(len(home_run(six, standing, picks)), steps)
            due = self.check(six, standing, picks)
            self.same(due is None, steps > 900)

    def test_of_stalls(self):
        dice = random.Random(347)
        for words in KINDS * 3:
            manners = safe(dice, dice.randrange(3, 7), words)
            told = stall(manners)
            if told is not None and told[1] == ():
                here = loopmodel.gone(manners, start(manners), told[0])[-1][1]
                self.same(home_run(manners, here, random_picks(dice)), ())

    def test_main_3(self):
        """By safe manners that are never stuck all come home, whoever moves."""
        dice = random.Random(349)
        for many in (2, 3, 4, 5, 6):
            found = 0
            while found < 6:
                manners = ranked_but(dice, many, dice.randrange(4))
                if not is_never_stuck(manners):
                    continue
                found += 1
                for _ in range(3):
                    run = model.random_run(dice, manners, start(manners), dice.randrange(1, 120))
                    here = loopmodel.gone(manners, start(manners), run)[-1][1]
                    self.check_home(manners, here, random_picks(dice))

    def check_home(self, manners, here, picks):
        run, last = self.check(manners, here, picks)
        self.assertEqual(set(last[0]), {model.REST})
        self.assertLessEqual(len(run), home_bound(manners))
        told = loopmodel.gone(manners, here, run)
        for hand, place in enumerate(here[0]):
            own = [step for mover, (step, _) in zip(run, told) if mover == hand]
            if place == model.REST:
                self.same(own, [])
            elif place == model.IN:
                self.same(own, ["leave"])
            else:
                self.same((own.count("enter"), own.count("leave"), own.count("begin")), (1, 1, 0))

    def test_bound_from_anywhere(self):
        """Without a ring of bows home_run has at most home_bound steps, also from what does not come of start."""
        dice = random.Random(353)
        for many in (2, 3, 4, 5, 6):
            for _ in range(15):
                manners = ranked_but(dice, many, dice.randrange(6))
                standing = model.random_standing(dice, manners)
                run, last = self.check(manners, standing, random_picks(dice))
                self.assertLessEqual(len(run), home_bound(manners))
                self.same(going_home(manners, last, (0,))[0], ())

    def test_keeps(self):
        dice = random.Random(359)
        for _ in range(10):
            manners = ranked_but(dice, 4)
            self.keeps(tries_most, manners, 2)
            self.keeps(home_bound, manners)
            self.keeps(home_run, manners, model.random_standing(dice, manners), random_picks(dice))


if __name__ == "__main__":
    unittest.main()
