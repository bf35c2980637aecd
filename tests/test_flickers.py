"""[L1] to [L3], [L8]: bowstands.flickers."""

import random
import unittest

from bowstands.aparts import fault
from bowstands.errors import Unfit
from bowstands.flickers import made, next_words, slow_error, views
from bowstands.kinds import known
from bowstands.manners import renamed
from bowstands.standings import standing_error, start
from bowstands.steps import next_step
from tests import explore, model, slowmodel
from tests.support import MIXED, TWO, Case, all_of_two, many_manners, odd_values, random_manners
from tests.test_alls import renamed_standing

EARLY = (TWO[0], TWO[1], (0, 1))
MEEK = known("meek", 2)
SLIPS = ((("-", "slip"), ("stand", "-")), ((1,), (0,)), ())
HELD = ((0, 1, 0),)

WORDS = (
    "begin", "raise", "raised", "hand", "set", "look", "enter", "yield", "lower", "lowered", "see", "leave", "left",
    "wait", "", "go", "rise", "Begin", "none",
)


def hands_of(manners):
    return range(len(manners[0]))


class Views(Case):
    def test_each_place(self):
        rest = ("rest", 0)
        for manners, place, due in (
            (TWO, ("rise", 0), ("down", "half")), (EARLY, ("rise", 0), ("down", "up")),
            (MEEK, ("rise", 0), ("down", "up")), (TWO, ("set", 0), ("half", "up")), (MEEK, ("sink", 0), ("up", "down")),
            (SLIPS, ("sink", 0), ("up", "down")), (SLIPS, ("again", 0), ("down", "up")),
            (TWO, ("empty", 0), ("up", "down")),
            (TWO, ("rest", 0), ("down",)), (TWO, ("wish", 0), ("down",)), (TWO, ("hand", 0), ("half",)),
            (EARLY, ("hand", 0), ("down",)), (TWO, ("look", 0), ("up",)), (MEEK, ("yield", 0), ("up",)),
            (MEEK, ("low", 0), ("down",)), (SLIPS, ("anew", 0), ("down",)), (TWO, ("in", 0), ("up",)),
        ):
            tokens = HELD if manners[0] == TWO[0] else ()
            self.same(views(manners, ((place, rest), tokens), 0), due, (manners, place))

    def test_many(self):
        dice = random.Random(1103)
        for manners in many_manners(each=20, seed=1103):
            standing = slowmodel.random_standing(dice, manners)
            for hand in hands_of(manners):
                self.same(views(manners, standing, hand), slowmodel.views(manners, standing, hand))
            self.keeps(views, manners, standing, 0)


class SlowErrors(Case):
    def test_places(self):
        """Each place with each spot, of each hand of some manners."""
        words = "rest wish in hand look yield low anew rise set sink again empty gone Rise".split() + ["", None, 0]
        for manners in all_of_two()[::3] + many_manners(each=3, seed=1109)[68:]:
            resting = start(manners)
            for hand in hands_of(manners):
                known_places = slowmodel.all_places(manners, hand)
                for word in words:
                    for spot in (0, 1, 2, 3, 5, -1, True, False, None, "0", 10 ** 30):
                        places = list(resting[0])
                        places[hand] = (word, spot)
                        is_place = type(spot) is int and (word, spot) in known_places
                        due = None if is_place else ("place", hand)
                        self.same(slow_error(manners, (tuple(places), resting[1])), due, places)

    def test_form(self):
        for value in odd_values():
            is_form = type(value) is tuple and [type(part) for part in value] == [tuple, tuple]
            due = "form" if not is_form else "places" if len(value[0]) != 2 else ("place", 0)
            self.same(slow_error(TWO, value), due, value)
        places = (("rise", 0), ("set", 0))
        for value, due in (
            ((places, HELD), None), ([places, HELD], "form"), ((list(places), HELD), "form"),
            ((places, list(HELD)), "form"),
            ((places, HELD, ()), "form"), ((places,), "form"), ((places[:1], HELD), "places"),
            ((places * 2, HELD), "places"),
            (((["rise", 0], ("set", 0)), HELD), ("place", 0)), (((("rise",), ("set", 0)), HELD), ("place", 0)),
            (((("rise", 0, 0), ("set", 0)), HELD), ("place", 0)), ((("rise", ("set", 0)), HELD), ("place", 0)),
            ((places, ()), "tokens"), ((places, HELD * 2), "tokens"), ((places, ((0, 1, 2),)), ("token", 0)),
            ((places, ((0, 1, True),)), ("token", 0)), ((places, ((1, 0, 0),)), ("token", 0)),
            ((places, ([0, 1, 0],)), ("token", 0)),
        ):
            self.same(slow_error(TWO, value), due, value)

    def test_several_at_once(self):
        for value, due in (
            (((("sink", 0),), ()), "places"), (((("sink", 0), ("gone", 0)), ()), ("place", 0)),
            (((("rise", 0), ("sink", 0)), ()), ("place", 1)), (((("rise", 0), ("set", 0)), ()), "tokens"),
        ):
            self.same(slow_error(TWO, value), due, value)
        tokens = ((0, 2, 1), (1, 2, 0))
        self.same(slow_error(MIXED, ((("rise", 0), ("sink", 0), ("set", 0)), tokens)), ("token", 0))
        self.same(slow_error(MIXED, ((("rise", 0), ("sink", 0), ("set", 0)), ((0, 2, 2), (1, 2, 0)))), ("token", 1))
        self.same(slow_error(MIXED, ((("rise", 0), ("sink", 1), ("set", 0)), tokens)), ("place", 1))

    def test_standings_are_slow_standings(self):
        dice = random.Random(1117)
        for manners in many_manners(each=15, seed=1117):
            standing = model.random_standing(dice, manners)
            self.same(slow_error(manners, standing), None)
            slow = slowmodel.random_standing(dice, manners)
            self.same(slow_error(manners, slow), None)
            is_plain = all(word not in ("rise", "set", "sink", "again", "empty") for word, _ in slow[0])
            self.same(standing_error(manners, slow) is None, is_plain)
            self.keeps(slow_error, manners, slow)


class Steps(Case):
    def check(self, manners, standing):
        """All words and all steps of all hands."""
        for hand in hands_of(manners):
            due = slowmodel.steps(manners, standing, hand)
            told = next_words(manners, standing, hand)
            self.same(told, tuple(sorted(due)), (manners, standing, hand))
            self.assertLessEqual(len(told), 2)
            for word in WORDS:
                if word == "wait" or word not in due:
                    self.fails(Unfit(), made, manners, standing, hand, word)
                else:
                    there = made(manners, standing, hand, word)
                    self.same(there, due[word], (manners, standing, hand, word))
                    self.same(slow_error(manners, there), None)

    def test_of_two_all(self):
        """All slow standings there are by manners of two hands."""
        for manners in all_of_two()[::2]:
            for standing in slowmodel.all_standings(manners):
                self.check(manners, standing)

    def test_many(self):
        dice = random.Random(1123)
        for manners in many_manners(each=25, seed=1123)[68:]:
            for _ in range(3):
                self.check(manners, slowmodel.random_standing(dice, manners))

    def test_both_sights(self):
        """What is seen of each changing flag, by each treatment."""
        for treats, place, words in (
            ("stand", ("rise", 0), ("enter", "wait")), ("bow", ("rise", 0), ("enter", "yield")),
            ("slip", ("rise", 0), ("enter", "yield")), ("pass", ("rise", 0), ("enter",)),
            ("stand", ("empty", 0), ("enter", "wait")), ("bow", ("empty", 0), ("enter", "yield")),
            ("stand", ("in", 0), ("wait",)), ("bow", ("wish", 0), ("enter",)),
        ):
            manners = ((("-", "stand"), (treats, "-")), ((1,), (0,)), ())
            self.same(next_words(manners, ((place, ("look", 0)), ()), 1), words)
        for place in (("rise", 0), ("empty", 0)):
            for manners in (MEEK, SLIPS):
                self.same(next_words(manners, (((("low", 0), place)), ()), 0), ("see", "wait"))
        for place, who, words in (
            (("rise", 0), 0, ("enter", "wait")), (("rise", 0), 1, ("enter", "wait")), (("hand", 0), 1, ("wait",)),
            (("set", 0), 0, ("wait",)), (("set", 0), 1, ("enter", "wait")), (("look", 0), 1, ("enter",)),
            (("look", 0), 0, ("wait",)), (("empty", 0), 1, ("enter",)), (("empty", 0), 0, ("enter", "wait")),
        ):
            self.same(next_words(TWO, ((place, ("look", 0)), ((0, 1, who),)), 1), words)

    def test_where_nothing_changes(self):
        """next_words is the word of next_step, or "wait"; of a hand at anew "raise"."""
        dice = random.Random(1129)
        for manners in many_manners(each=20, seed=1129):
            for _ in range(3):
                standing = model.random_standing(dice, manners)
                for hand in hands_of(manners):
                    word = next_step(manners, standing, hand)
                    due = "raise" if standing[0][hand][0] == "anew" else "wait" if word is None else word
                    self.same(next_words(manners, standing, hand), (due,))

    def test_renamed(self):
        dice = random.Random(1151)
        for _ in range(30):
            many = dice.randrange(2, 6)
            manners = random_manners(dice, many)
            row = tuple(dice.sample(range(many), many))
            other = renamed(manners, row)
            standing = slowmodel.random_standing(dice, manners)
            there = renamed_standing(manners, standing, row)
            for hand in range(many):
                self.same(next_words(other, there, row[hand]), next_words(manners, standing, hand))

    def test_kept(self):
        turning = ((("rise", 0), ("look", 0)), ((0, 1, 1),))
        for hand in (0, 1):
            self.keeps(next_words, TWO, turning, hand)
        self.keeps(made, TWO, turning, 1, "enter")
        self.keeps(made, TWO, turning, 0, "raised")


class Meetings(Case):
    def test_main_6(self):
        """By slow steps two hands meet exactly if fault tells one."""
        dice = random.Random(1153)
        found = all_of_two() + [random_manners(dice, 3) for _ in range(12)]
        found += [random_manners(dice, 3, ("stand", "bow", "even"))[:2] + ((),) for _ in range(8)]
        for manners in found:
            met = explore.meetings(slowmodel.reached(manners))
            for one in hands_of(manners):
                for other in range(one):
                    self.same((other, one) in met, fault(manners, one, other) is not None, manners)


if __name__ == "__main__":
    unittest.main()
