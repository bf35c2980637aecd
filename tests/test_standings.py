"""[B1] to [B3], [B6]: bowstands.standings."""

import itertools
import random
import unittest

from bowstands.kinds import known
from bowstands.standings import flag, holder, standing_error, start
from tests import model
from tests.support import MIXED, TWO, Case, all_of_two, many_manners, odd_values

PLACE_WORDS = ("rest", "wish", "in", "hand", "look", "yield", "low", "anew")

# 0 bows to 3, slips for 1 and is even with 2; 1 is early and even with 2 and 3.
FOUR = (
    (
        ("-", "slip", "even", "bow"),
        ("stand", "-", "even", "even"),
        ("even", "even", "-", "pass"),
        ("stand", "even", "bow", "-"),
    ),
    ((3, 1, 2), (0, 2, 3), (3, 0, 1), (1, 2, 0)),
    (1,),
)
RESTING = ((("rest", 0),) * 4, ((0, 2, 0), (1, 2, 1), (1, 3, 1)))


def at(standing, hand, place):
    places, tokens = standing
    return (places[:hand] + (place,) + places[hand + 1:], tokens)


def with_token(standing, spot, token):
    places, tokens = standing
    return (places, tokens[:spot] + (token,) + tokens[spot + 1:])


class Start(Case):
    def test_whole(self):
        self.same(start(FOUR), RESTING)
        self.same(start(known("ranked", 6)), ((("rest", 0),) * 6, ()))
        pairs = tuple((i, j, i) for i, j in itertools.combinations(range(6), 2))
        self.same(start(known("level", 6)), ((("rest", 0),) * 6, pairs))
        self.same(start((TWO[0], TWO[1], (0, 1))), start(TWO))

    def test_is_a_standing(self):
        for manners in many_manners():
            self.same(standing_error(manners, start(manners)), None)
            self.same(start(manners)[1], tuple((i, j, i) for i, j in model.even_ones(manners)))
            self.keeps(start, manners)


class StandingError(Case):
    def test_all_places(self):
        """Each word with each spot, told by a table of what there is."""
        due = {
            0: {"hand": 1, "look": 3, "yield": (0, 1), "low": (0, 1), "anew": (1,)},
            1: {"hand": 2, "look": 3},
            2: {"hand": 2, "look": 3},
            3: {"hand": 1, "look": 3, "yield": (1,), "low": (1,)},
        }
        for hand, word, spot in itertools.product(range(4), PLACE_WORDS, range(-2, 5)):
            told = due[hand].get(word, 1 if word in ("rest", "wish", "in") else 0)
            spots = range(told) if isinstance(told, int) else told
            error = None if spot in spots else ("place", hand)
            self.same(standing_error(FOUR, at(RESTING, hand, (word, spot))), error, (hand, word, spot))

    def test_all_of_two(self):
        for manners in all_of_two():
            for value in model.all_standings(manners):
                self.same(standing_error(manners, value), None)
            tokens = start(manners)[1]
            for hand, word, spot in itertools.product((0, 1), PLACE_WORDS + ("gone", ""), (-1, 0, 1)):
                due = None if (word, spot) in model.all_places(manners, hand) else ("place", hand)
                value = at((start(manners)[0], tokens), hand, (word, spot))
                self.same(standing_error(manners, value), due, (manners, value))

    def test_standings_of_many(self):
        dice = random.Random(11)
        for manners in many_manners():
            for _ in range(5):
                value = model.random_standing(dice, manners)
                self.same(standing_error(manners, value), None)
                hand = dice.randrange(len(value[0]))
                word, spot = dice.choice(PLACE_WORDS), dice.randrange(6)
                due = None if (word, spot) in model.all_places(manners, hand) else ("place", hand)
                self.same(standing_error(manners, at(value, hand, (word, spot))), due)

    def test_form(self):
        for value in odd_values() + [TWO, list(RESTING), RESTING + ((),), RESTING[:1], [RESTING]]:
            pair = isinstance(value, tuple) and len(value) == 2 and all(isinstance(part, tuple) for part in value)
            self.same(standing_error(FOUR, value), "places" if pair else "form", value)
        for part in (None, [], {}, "", 0, True, list(RESTING[0])):
            self.same(standing_error(FOUR, (part, RESTING[1])), "form")
            self.same(standing_error(FOUR, (RESTING[0], part)), "form")

    def test_places(self):
        places, tokens = RESTING
        for value in ((), places[:3], places + places[:1], places * 2):
            self.same(standing_error(FOUR, (value, tokens)), "places")
        self.same(standing_error(FOUR, start(MIXED)), "places")
        self.same(standing_error(MIXED, RESTING), "places")

    def test_no_place(self):
        bad = (
            None, "rest", (), ("rest",), ("rest", 0, 0), ["rest", 0], ("rest", None), ("rest", False), ("rest", "0"),
            ("look", True), ("hand", False), (0, "rest"), (None, 0), (["rest"], 0), ({}, 0), ("Rest", 0), ("", 0),
            ("gone", 0), ("rest", -1), ("rest", 10 ** 399), ("look", (0,)), ("look", [0]), (("rest", 0), 0), {}, 0,
        )
        for hand, place in itertools.product(range(4), bad):
            self.same(standing_error(FOUR, at(RESTING, hand, place)), ("place", hand), place)
        self.same(standing_error(FOUR, at(at(RESTING, 3, None), 1, None)), ("place", 1))

    def test_tokens(self):
        places, tokens = RESTING
        for value in ((), tokens[:2], tokens + tokens[:1], (None,)):
            self.same(standing_error(FOUR, (places, value)), "tokens")
        self.same(standing_error(known("proud", 2), ((("rest", 0),) * 2, ((0, 1, 0),))), "tokens")
        self.same(standing_error(known("proud", 2), ((("rest", 0),) * 2, ())), None)

    def test_token(self):
        for spot, (i, j, _) in enumerate(RESTING[1]):
            for who in range(-1, 5):
                due = None if who in (i, j) else ("token", spot)
                self.same(standing_error(FOUR, with_token(RESTING, spot, (i, j, who))), due)
            bad = [
                None, (), (i, j), (i, j, i, j), [i, j, i], (j, i, i), (i, i, i), (j, j, j), (i, j, None), "012",
                (i, j, str(i)), (i, j, (i,)), (i, j, [i]), (str(i), j, j), {}, i, (None, None, None), (i, j, {}),
            ]
            bad += [token[:2] + (i,) for at_spot, token in enumerate(RESTING[1]) if at_spot != spot]
            for token in bad:
                self.same(standing_error(FOUR, with_token(RESTING, spot, token)), ("token", spot), token)
        self.same(standing_error(FOUR, with_token(with_token(RESTING, 2, None), 1, None)), ("token", 1))

    def test_bools_are_no_hands(self):
        for token in ((False, 1, 1), (0, True, 0), (0, 1, True), (0, 1, False), (False, True, 1)):
            self.same(standing_error(TWO, ((("rest", 0),) * 2, (token,))), ("token", 0))

    def test_first_told_is_due(self):
        steps = [
            ("places", lambda value: (value[0] + (("rest", 0),), value[1])),
            (("place", 0), lambda value: at(value, 0, ("hand", 1))),
            (("place", 2), lambda value: at(value, 2, ("yield", 0))),
            ("tokens", lambda value: (value[0], value[1] + ((2, 3, 2),))),
            (("token", 0), lambda value: with_token(value, 0, (0, 2, 1))),
            (("token", 1), lambda value: with_token(value, 1, (1, 2, 0))),
        ]
        for (first, one), (_, other) in itertools.combinations(steps, 2):
            self.same(standing_error(FOUR, one(other(RESTING))), first)
            self.same(standing_error(FOUR, list(one(other(RESTING)))), "form")

    def test_by_other_manners(self):
        """A standing by some manners is none by others, where these have not its places."""
        low = ((("low", 0), ("rest", 0)), ())
        for word, due in (("bow", None), ("slip", None), ("stand", ("place", 0)), ("pass", ("place", 0))):
            manners = ((("-", word), ("stand", "-")), ((1,), (0,)), ())
            self.same(standing_error(manners, low), due)
        self.same(standing_error(TWO, ((("hand", 0), ("rest", 0)), ())), "tokens")
        self.same(standing_error(known("meek", 2), ((("hand", 0), ("rest", 0)), ())), ("place", 0))

    def test_keeps(self):
        for value in odd_values() + [RESTING, at(RESTING, 0, ["rest", 0]), with_token(RESTING, 0, [0, 2, 2])]:
            self.keeps(standing_error, FOUR, value)


class FlagAndHolder(Case):
    def test_each_place(self):
        due = {"rest": "down", "wish": "down", "in": "up", "look": "up", "yield": "up", "low": "down", "anew": "down"}
        for hand in range(4):
            for word, spot in model.all_places(FOUR, hand):
                shown = due.get(word, "down" if hand == 1 else "half")
                self.same(flag(FOUR, at(RESTING, hand, (word, spot)), hand), shown)

    def test_by_the_model(self):
        dice = random.Random(13)
        for manners in many_manners():
            standing = model.random_standing(dice, manners)
            for hand in range(len(manners[0])):
                self.same(flag(manners, standing, hand), model.flag_of(manners, standing, hand))
                self.keeps(flag, manners, standing, hand)

    def test_holder(self):
        standing = (RESTING[0], ((0, 2, 2), (1, 2, 1), (1, 3, 3)))
        due = {(0, 2): 2, (1, 2): 1, (1, 3): 3}
        for one, other in itertools.permutations(range(4), 2):
            self.same(holder(standing, one, other), due.get((min(one, other), max(one, other))))
            self.keeps(holder, standing, one, other)

    def test_holder_of_many(self):
        dice = random.Random(17)
        for manners in many_manners():
            standing = model.random_standing(dice, manners)
            held = {(i, j): who for i, j, who in standing[1]}
            for i, j in itertools.combinations(range(len(manners[0])), 2):
                self.same(holder(standing, i, j), held.get((i, j)))
                self.same(holder(standing, j, i), held.get((i, j)))


if __name__ == "__main__":
    unittest.main()
