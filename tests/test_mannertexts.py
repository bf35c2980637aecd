"""[A8], [A9]: bowstands.mannertexts."""

import itertools
import re
import unittest

from bowstands.errors import BadManners, BadText
from bowstands.kinds import known
from bowstands.mannertexts import manners_text, read_manners
from tests.support import MIXED, TWO, WORDS, Case, edited, many_manners, odd_values, outcome

PART = "[0-5] (?:stand|bow|even|pass|slip)"
LINE = re.compile(f"(early )?({PART}(?:, {PART})*)")


def due_of(text):
    """What read_manners has to do with a string, told another way."""
    lines = text.split("\n")
    if not 2 <= len(lines) <= 6:
        return ("raised", "BadText", {"place": 1 if len(lines) == 1 else 6})
    table, orders, early = [], [], []
    for hand, line in enumerate(lines):
        found = LINE.fullmatch(line)
        told = re.findall("([0-9]) ([a-z]+)", found.group(2)) if found else []
        others = {int(figure): word for figure, word in told}
        if set(others) != set(range(len(lines))) - {hand} or len(told) != len(others):
            return ("raised", "BadText", {"place": hand})
        orders.append(tuple(others))
        early += [hand] if found.group(1) else []
        others[hand] = "-"
        table.append(tuple(others[other] for other in sorted(others)))
    for i, j in itertools.combinations(range(len(lines)), 2):
        if [table[i][j], table[j][i]].count("even") == 1:
            return ("raised", "BadManners", {"error": ("even", i, j)})
    return ("returned", (tuple(table), tuple(orders), tuple(early)))


class MannersText(Case):
    def test_whole_texts(self):
        for manners, due in (
            ((TWO[0], TWO[1], (0, 1)), "early 1 even\nearly 0 even"),
            ((MIXED[0], MIXED[1], (0, 2)), "early 2 even, 1 stand\n0 bow, 2 even\nearly 0 even, 1 even"),
            (((("-", "slip"), ("pass", "-")), ((1,), (0,)), (1,)), "1 slip\nearly 0 pass"),
            (known("ranked", 3), "1 stand, 2 stand\n0 bow, 2 stand\n0 bow, 1 bow"),
        ):
            self.same(manners_text(manners), due)
            self.same(read_manners(due), manners)

    def test_of_six(self):
        lines = manners_text(known("level", 6)).split("\n")
        self.same(lines[0], "1 even, 2 even, 3 even, 4 even, 5 even")
        self.same(lines[5], "0 even, 1 even, 2 even, 3 even, 4 even")

    def test_there_and_back(self):
        texts = {}
        for manners in many_manners(each=40):
            text = manners_text(manners)
            self.same(read_manners(text), manners)
            self.assertEqual(texts.setdefault(text, manners), manners)
            self.keeps(manners_text, manners)
            self.keeps(read_manners, text)


class ReadManners(Case):
    def test_no_string(self):
        for value in odd_values() + [[manners_text(TWO)], (manners_text(TWO),), {"1 even\n0 even": 1}]:
            if not isinstance(value, str):
                self.fails(BadText(0), read_manners, value)

    def test_number_of_lines(self):
        for text in ("", "1 even", "early ", "0 even", "x", "1 even, 0 even", "1 even 0 even"):
            self.fails(BadText(1), read_manners, text)
        six = manners_text(known("ranked", 6))
        self.same(read_manners(six), known("ranked", 6))
        for text in (six + "\n", "\n" + six, "\n" * 6, "\n" * 20, six + "\n" + six, six + "\n0 bow"):
            self.fails(BadText(6), read_manners, text)
        seven = "\n".join(", ".join(f"{j} bow" for j in range(7) if j != i) for i in range(7))
        self.fails(BadText(6), read_manners, seven)

    def test_line_feed_at_the_end(self):
        self.fails(BadText(0), read_manners, "1 even\n0 even\n")
        self.fails(BadText(2), read_manners, "1 bow, 2 bow\n0 bow, 2 bow\n")
        self.fails(BadText(1), read_manners, "1 bow\n")
        self.fails(BadText(0), read_manners, "\n0 bow")

    def test_first_wrong_line(self):
        good = ["1 bow, 2 pass", "2 slip, 0 stand", "early 0 even, 1 pass"]
        for places in ((0,), (1,), (2,), (0, 1), (0, 2), (1, 2), (0, 1, 2)):
            lines = ["" if place in places else good[place] for place in range(3)]
            self.fails(BadText(places[0]), read_manners, "\n".join(lines))

    def test_wrong_lines(self):
        for line in (
            "", " ", "early", "early ", "Early 1 bow", "early early 1 bow", "early  1 bow", " 1 bow", "1 bow ",
            "1bow", "1  bow", "1 bow,", ", 1 bow", "1 bow, 1 bow", "1 bow, 2 bow", "2 bow", "0 bow", "1 -", "1",
            "1 ", "01 bow", "+1 bow", "-1 bow", "1.0 bow", "one bow", "bow 1", "1 wait", "1 Bow", "1 bow early",
            "1 bow; ", "1\tbow", "9 bow", "1 bow\r", "early1 bow", " early 1 bow", "early 1 bow, early 1 bow",
        ):
            self.fails(BadText(0), read_manners, line + "\n0 bow")

    def test_no_manners(self):
        for one, other in itertools.product(WORDS, WORDS):
            text = f"1 {one}\nearly 0 {other}"
            if (one == "even") == (other == "even"):
                self.same(read_manners(text), ((("-", one), (other, "-")), ((1,), (0,)), (1,)))
            else:
                self.fails(BadManners(("even", 0, 1)), read_manners, text)
        self.fails(BadManners(("even", 0, 2)), read_manners, "2 even, 1 bow\n0 bow, 2 even\n0 bow, 1 pass")
        # A wrong line is due ahead of what is no manners.
        self.fails(BadText(2), read_manners, "2 even, 1 bow\n0 bow, 2 even\n0 bow,1 pass")

    def test_other_orders(self):
        for order in itertools.permutations((1, 2, 3)):
            line = ", ".join(f"{other} slip" for other in order)
            rest = "0 bow, 2 bow, 3 bow\n0 bow, 1 bow, 3 bow\n0 bow, 1 bow, 2 bow"
            self.same(read_manners(line + "\n" + rest)[1][0], order)

    def test_one_sign_otherwise(self):
        """Texts in which a sign is put in, taken out or exchanged."""
        for manners in many_manners(each=2, seed=7)[::4]:
            for text in edited(manners_text(manners), "0125 ,\ney"):
                self.same(outcome(read_manners, text), due_of(text), text)

    def test_strings_of_all_kinds(self):
        for text in [value for value in odd_values() if isinstance(value, str)]:
            self.same(outcome(read_manners, text), due_of(text), text)

    def test_words_exchanged(self):
        words = ("stand", "bow", "even", "pass", "slip", "early", "wait", "", "evens")
        for one, other in itertools.product(words, words):
            for mark in ("", "early "):
                text = f"{mark}2 {one}, 1 bow\n2 even, 0 {other}\n{mark}1 even, 0 pass"
                self.same(outcome(read_manners, text), due_of(text), text)


if __name__ == "__main__":
    unittest.main()
