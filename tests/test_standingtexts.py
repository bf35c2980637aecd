"""[B5], [B6]: bowstands.standingtexts."""

import itertools
import random
import unittest

from bowstands.errors import BadText
from bowstands.kinds import known
from bowstands.standings import start
from bowstands.standingtexts import read_standing, standing_text
from tests import model
from tests.support import MIXED, TWO, Case, all_of_two, edited, many_manners, odd_values

SLIPS = (
    (("-", "slip", "even"), ("stand", "-", "even"), ("even", "even", "-")),
    ((1, 2), (2, 0), (0, 1)),
    (1,),
)


class StandingText(Case):
    def test_whole_texts(self):
        for manners, standing, due in (
            (known("ranked", 2), ((("wish", 0), ("yield", 0)), ()), "wish, yield 0"),
            (TWO, ((("in", 0), ("look", 0)), ((0, 1, 0),)), "in, look 0; 0"),
            (
                SLIPS,
                ((("anew", 0), ("look", 1), ("hand", 1)), ((0, 2, 2), (1, 2, 1))),
                "anew 0, look 1, hand 1; 2 1",
            ),
            (known("meek", 3), ((("low", 1), ("rest", 0), ("in", 0)), ()), "low 1, rest, in"),
            (known("level", 3), start(known("level", 3)), "rest, rest, rest; 0 0 1"),
        ):
            self.same(standing_text(manners, standing), due)
            self.same(read_standing(manners, due), standing)

    def test_all_of_two(self):
        """All standings by manners, and their texts: unlike ones are told by unlike texts."""
        for manners in all_of_two():
            texts = []
            for standing in model.all_standings(manners):
                text = standing_text(manners, standing)
                self.same(text, model.text_of(standing))
                self.same(read_standing(manners, text), standing)
                texts.append(text)
            self.assertEqual(len(texts), len(set(texts)))

    def test_many(self):
        dice = random.Random(41)
        for manners in many_manners(each=30, seed=41):
            standing = model.random_standing(dice, manners)
            text = standing_text(manners, standing)
            self.same(text, model.text_of(standing))
            self.same(read_standing(manners, text), standing)
            self.keeps(standing_text, manners, standing)
            self.keeps(read_standing, manners, text)


class ReadStanding(Case):
    def test_no_string(self):
        for manners in (TWO, MIXED, SLIPS):
            for value in odd_values() + [start(manners), [standing_text(manners, start(manners))]]:
                self.fails(BadText(0), read_standing, manners, value)

    def test_one_sign_otherwise(self):
        """Texts in which a sign is put in, taken out or exchanged."""
        dice = random.Random(43)
        for manners in (TWO, MIXED, SLIPS, known("meek", 2), known("ranked", 3), known("level", 3)):
            due = {model.text_of(standing): standing for standing in model.all_standings(manners)}
            for whole in dice.sample(sorted(due), 30):
                for text in edited(whole, "0123 ,;\nw"):
                    if text in due:
                        self.same(read_standing(manners, text), due[text])
                    else:
                        self.fails(BadText(0), read_standing, manners, text)

    def test_parts_otherwise(self):
        """A place, a spot or a holder put in, taken out or exchanged."""
        parts = ["rest", "wish", "in", "hand 0", "hand 1", "look 0", "look 1", "look 2", "yield 0", "low 0", "anew 0"]
        parts += ["rest 0", "look", "look 00", "look -1", "look +1", "look  1", " look 1", "Rest", "anew 1", "", "gone 0"]
        for manners in (MIXED, SLIPS):
            due = {model.text_of(standing): standing for standing in model.all_standings(manners)}
            texts = [f"{part}, rest, wish; 0 1" for part in parts]
            texts += [f"in, {part}, wish; 2 2" for part in parts]
            texts += [f"in, rest, {part}; 0 2" for part in parts]
            texts += [f"in, rest, rest, {part}; 0 2" for part in parts]
            texts += [f"in, rest, rest; {one} {other}" for one, other in itertools.product(range(4), range(4))]
            texts += [f"in, rest, rest{tail}" for tail in ("", ";", "; ", "; 0", "; 0 ", "; 0 1 1", "; 0  1", "; 00 1")]
            texts += [f"in, rest, rest{tail}" for tail in (";0 1", ", 0 1", " 0 1", "; 0, 1", "; 0; 1", "; 0 1; 0 1")]
            texts += [f"in, rest, rest; 0 1{tail}" for tail in (" ", "\n", ";", ", rest")]
            texts += ["in, rest; 0 1", "in,rest, rest; 0 1", "in rest rest; 0 1", "; 0 1", "0 1", "0 1; in, rest, rest"]
            for text in texts:
                if text in due:
                    self.same(read_standing(manners, text), due[text])
                else:
                    self.fails(BadText(0), read_standing, manners, text)
            self.assertTrue(any(text in due for text in texts))

    def test_no_tokens(self):
        ranked = known("ranked", 2)
        self.same(read_standing(ranked, "rest, wish"), ((("rest", 0), ("wish", 0)), ()))
        for text in ("rest, wish; ", "rest, wish; 0", "rest, wish;", "rest, wish; 0 1", "; rest, wish", ""):
            self.fails(BadText(0), read_standing, ranked, text)

    def test_of_other_manners(self):
        self.fails(BadText(0), read_standing, TWO, "rest, low 0; 0")
        self.same(read_standing(known("ranked", 2), "rest, low 0"), ((("rest", 0), ("low", 0)), ()))
        self.fails(BadText(0), read_standing, known("ranked", 2), "low 0, rest")
        self.fails(BadText(0), read_standing, known("proud", 2), "rest, low 0")
        self.fails(BadText(0), read_standing, TWO, standing_text(MIXED, start(MIXED)))
        self.fails(BadText(0), read_standing, MIXED, standing_text(TWO, start(TWO)))


if __name__ == "__main__":
    unittest.main()
