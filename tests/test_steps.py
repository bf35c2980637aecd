"""[B1], [B4], [B6]: bowstands.steps."""

import itertools
import random
import unittest

from bowstands.errors import Unfit
from bowstands.manners import renamed
from bowstands.standings import flag, standing_error, start
from bowstands.steps import movers, next_step, stepped
from tests import model
from tests.support import Case, all_of_two, many_manners



def beside(word, back="stand", early=()):
    """Three hands: 0 looks at 1, treating it so, and then at 2, for which it stands."""
    table = (("-", word, "stand"), (back, "-", "even"), ("bow", "even", "-"))
    return (table, ((1, 2), (0, 2), (0, 1)), early)


def tokens_of(word, who):
    return ((0, 1, who), (1, 2, 1)) if word == "even" else ((1, 2, 1),)


class NextStep(Case):
    def check(self, manners, standing, hand, step, place, tokens=None):
        """hand's next step, and where it stands behind that; all else as it was, but for the told tokens."""
        self.same(standing_error(manners, standing), None)
        self.same(next_step(manners, standing, hand), step, standing)
        if step is None:
            self.fails(Unfit(), stepped, manners, standing, hand)
            return
        places = standing[0][:hand] + (place,) + standing[0][hand + 1:]
        self.same(stepped(manners, standing, hand), (places, standing[1] if tokens is None else tokens))

    def test_looks(self):
        """How 0 treats 1, 1's flag, who has the token: the step, and the place behind it."""
        on = ("look", ("look", 1))
        off = ("yield", ("yield", 0))
        stop = (None, None)
        due = {
            "stand": {"down": on, "half": stop, "up": stop},
            "bow": {"down": on, "half": off, "up": off},
            "slip": {"down": on, "half": off, "up": off},
            "pass": {"down": on, "half": on, "up": on},
        }
        shows = {
            "down": [("rest", 0), ("wish", 0), ("low", 0)],
            "half": [("hand", 0)],
            "up": [("look", 0), ("look", 1), ("yield", 0), ("in", 0)],
        }
        for word, shown in itertools.product(due, shows):
            for place in shows[shown]:
                back = "bow" if place[0] in ("low", "yield") else "stand"
                standing = ((("look", 0), place, ("rest", 0)), tokens_of(word, 0))
                self.check(beside(word, back), standing, 0, *due[word][shown])

    def test_looks_at_even_ones(self):
        on, stop = ("look", ("look", 1)), (None, None)
        for place, mine, others in (
            (("rest", 0), on, on),
            (("wish", 0), on, on),
            (("hand", 0), stop, stop),
            (("hand", 1), stop, stop),
            (("look", 0), on, stop),
            (("look", 1), on, stop),
            (("in", 0), on, stop),
        ):
            for who, told in ((0, mine), (1, others)):
                standing = ((("look", 0), place, ("rest", 0)), tokens_of("even", who))
                self.check(beside("even", "even"), standing, 0, *told)

    def test_looks_at_early_ones(self):
        """An early one that hands over has its flag down."""
        for word in ("stand", "bow", "slip", "pass"):
            standing = ((("look", 0), ("hand", 0), ("rest", 0)), tokens_of(word, 0))
            self.check(beside(word, "stand", (1,)), standing, 0, "look", ("look", 1))
        for who, place in itertools.product((0, 1), (("hand", 0), ("hand", 1))):
            standing = ((("look", 0), place, ("rest", 0)), tokens_of("even", who))
            self.check(beside("even", "even", (1,)), standing, 0, "look", ("look", 1))

    def test_last_look(self):
        table = (("-", "bow", "stand"), ("stand", "-", "pass"), ("bow", "slip", "-"))
        manners = (table, ((2, 1), (2, 0), (0, 1)), ())
        for spot, word in ((0, "look"), (1, "enter")):
            place = ("look", 1) if spot == 0 else ("in", 0)
            self.check(manners, ((("look", spot), ("rest", 0), ("rest", 0)), ()), 0, word, place)
        self.check(manners, ((("look", 1), ("in", 0), ("rest", 0)), ()), 0, "yield", ("yield", 1))
        # 0 looks at 2 first: 1's flag is nothing to it there.
        self.check(manners, ((("look", 0), ("in", 0), ("rest", 0)), ()), 0, "look", ("look", 1))
        self.check(manners, ((("look", 0), ("rest", 0), ("in", 0)), ()), 0, None, None)
        self.check(manners, ((("rest", 0), ("look", 0), ("in", 0)), ()), 1, "look", ("look", 1))
        self.check(manners, ((("rest", 0), ("look", 1), ("rest", 0)), ()), 1, "enter", ("in", 0))

    def test_begin_and_raise(self):
        for early, begun, raised in ((False, ("wish", 0), ("hand", 0)), (True, ("hand", 0), ("look", 0))):
            manners = beside("even", "even", (1,) if early else ())
            tokens = tokens_of("even", 0)
            self.check(manners, ((("in", 0), ("rest", 0), ("in", 0)), tokens), 1, "begin", begun)
            self.check(manners, ((("in", 0), ("wish", 0), ("in", 0)), tokens), 1, "raise", raised)
        # Who is early, but even with nobody, hands nothing over.
        for early in ((), (0,)):
            manners = beside("bow", "stand", early)
            self.check(manners, ((("rest", 0), ("in", 0), ("in", 0)), ((1, 2, 1),)), 0, "begin", ("wish", 0))
            self.check(manners, ((("wish", 0), ("in", 0), ("in", 0)), ((1, 2, 1),)), 0, "raise", ("look", 0))

    def test_handings(self):
        """1 hands over to its even ones in its order, whoever had the token."""
        table = (("-", "even", "bow"), ("even", "-", "even"), ("stand", "even", "-"))
        for early, last in (((), ("look", 0)), ((1,), ("wish", 0))):
            manners = (table, ((1, 2), (2, 0), (0, 1)), early)
            for one, other in itertools.product((0, 1), (1, 2)):
                tokens = ((0, 1, one), (1, 2, other))
                standing = ((("in", 0), ("hand", 0), ("in", 0)), tokens)
                self.check(manners, standing, 1, "hand", ("hand", 1), ((0, 1, one), (1, 2, 2)))
                standing = ((("in", 0), ("hand", 1), ("in", 0)), tokens)
                self.check(manners, standing, 1, "hand", last, ((0, 1, 0), (1, 2, other)))

    def test_lower_and_see(self):
        for word in ("bow", "slip"):
            for early in ((), (0,)):
                manners = beside(word, "stand", early)
                self.check(manners, ((("yield", 0), ("in", 0), ("in", 0)), ((1, 2, 1),)), 0, "lower", ("low", 0))
                place = ("anew", 0) if word == "slip" else ("wish", 0)
                for shown, step in (
                    (("rest", 0), "see"), (("wish", 0), "see"), (("hand", 0), None), (("look", 0), None), (("in", 0), None),
                ):
                    standing = ((("low", 0), shown, ("in", 0)), ((1, 2, 1),))
                    self.check(manners, standing, 0, step, place)

    def test_see_of_one_that_has_even_ones(self):
        """Behind a bow it is as behind "begin"; behind a slip not."""
        for word, early, place in (
            ("bow", (), ("wish", 0)), ("bow", (0,), ("hand", 0)), ("slip", (), ("anew", 0)), ("slip", (0,), ("anew", 0)),
        ):
            table = (("-", word, "even"), ("stand", "-", "bow"), ("even", "stand", "-"))
            manners = (table, ((1, 2), (0, 2), (0, 1)), early)
            standing = ((("low", 0), ("rest", 0), ("in", 0)), ((0, 2, 0),))
            self.check(manners, standing, 0, "see", place)

    def test_anew(self):
        table = (("-", "slip", "slip"), ("stand", "-", "bow"), ("stand", "stand", "-"))
        manners = (table, ((2, 1), (0, 2), (0, 1)), ())
        for shown in (("rest", 0), ("in", 0)):
            self.check(manners, ((("anew", 0), shown, ("in", 0)), ()), 0, "raise", ("look", 1))
            self.check(manners, ((("anew", 1), shown, ("in", 0)), ()), 0, "enter", ("in", 0))
            self.check(manners, ((("in", 0), shown, ("in", 0)), ()), 0, "leave", ("rest", 0))


class Steps(Case):
    def compare(self, manners, standing):
        """All functions of the module, by the model."""
        able = []
        for hand in range(len(manners[0])):
            due = model.step_of(manners, standing, hand)
            if due is None:
                self.same(next_step(manners, standing, hand), None)
                self.fails(Unfit(), stepped, manners, standing, hand)
            else:
                able.append(hand)
                self.same((next_step(manners, standing, hand), stepped(manners, standing, hand)), due, standing)
        self.same(movers(manners, standing), tuple(able))

    def test_all_of_two(self):
        for manners in all_of_two():
            for standing in model.all_standings(manners):
                self.compare(manners, standing)

    def test_many(self):
        dice = random.Random(19)
        for manners in many_manners(each=40, seed=19)[68:]:
            for _ in range(12):
                self.compare(manners, model.random_standing(dice, manners))

    def test_on_the_way(self):
        dice = random.Random(23)
        for manners in many_manners(each=10, seed=23):
            standing = start(manners)
            for _ in range(60):
                self.compare(manners, standing)
                able = movers(manners, standing)
                if not able:
                    break
                standing = stepped(manners, standing, dice.choice(able))

    def test_what_holds(self):
        dice = random.Random(29)
        for manners in many_manners(each=30, seed=29):
            standing = model.random_standing(dice, manners)
            for hand in range(len(manners[0])):
                step = next_step(manners, standing, hand)
                self.assertEqual(step is None, hand not in movers(manners, standing))
                if step is None:
                    self.assertIn(standing[0][hand][0], ("look", "low"))
                    continue
                new = stepped(manners, standing, hand)
                self.same(standing_error(manners, new), None)
                others = [one for one in range(len(new[0])) if one != hand]
                self.assertTrue(all(new[0][one] == standing[0][one] for one in others))
                self.assertNotEqual(new[0][hand], standing[0][hand])
                self.assertLessEqual(sum(one != other for one, other in zip(new[1], standing[1])), 1)
                if flag(manners, new, hand) != flag(manners, standing, hand):
                    self.assertIn(step, ("raise", "hand", "lower", "leave", "enter"))
                    if step == "enter":
                        self.assertEqual(standing[0][hand][0], "anew")
                    if step == "hand":
                        self.assertEqual(flag(manners, standing, hand), "half")
                        self.assertEqual(flag(manners, new, hand), "up")

    def test_renamed(self):
        dice = random.Random(31)
        for manners in many_manners(each=15, seed=31):
            many = len(manners[0])
            row = tuple(dice.sample(range(many), many))
            new = renamed(manners, row)
            standing = model.random_standing(dice, manners)
            for hand in range(many):
                step = next_step(manners, standing, hand)
                self.same(next_step(new, renamed_standing(standing, row), row[hand]), step)
                if step is not None:
                    due = renamed_standing(stepped(manners, standing, hand), row)
                    self.same(stepped(new, renamed_standing(standing, row), row[hand]), due)

    def test_keeps(self):
        dice = random.Random(37)
        for manners in many_manners(each=4, seed=37):
            standing = model.random_standing(dice, manners)
            self.keeps(movers, manners, standing)
            for hand in range(len(manners[0])):
                self.keeps(next_step, manners, standing, hand)
            for hand in movers(manners, standing):
                self.keeps(stepped, manners, standing, hand)


def renamed_standing(standing, row):
    places, tokens = standing
    back = [row.index(hand) for hand in range(len(row))]
    new = [tuple(sorted((row[i], row[j]))) + (row[who],) for i, j, who in tokens]
    return (tuple(places[hand] for hand in back), tuple(sorted(new)))


if __name__ == "__main__":
    unittest.main()
