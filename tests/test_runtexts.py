"""[C4], [C5]: bowstands.runtexts."""

import random
import unittest

from bowstands.errors import BadText
from bowstands.runtexts import read_run, run_text
from tests.support import Case, odd_values


class RunTexts(Case):
    def test_whole_texts(self):
        for run, text in (((), ""), ((0,), "0"), ((5, 4, 3, 2, 1, 0), "543210"), ((0, 0, 1), "001"), ((1,) * 3, "111")):
            self.same(run_text(run), text)
            self.same(read_run(text), run)

    def test_there_and_back(self):
        dice = random.Random(97)
        for length in list(range(20)) + [899, 900]:
            run = tuple(dice.randrange(6) for _ in range(length))
            self.assertEqual(len(run_text(run)), length)
            self.same(read_run(run_text(run)), run)
            self.keeps(run_text, run)
            self.keeps(read_run, run_text(run))

    def test_no_string(self):
        for value in odd_values() + [("0", "1"), ["0"], 0, 10, b"01"]:
            if not isinstance(value, str):
                self.fails(BadText(0), read_run, value)

    def test_no_figure(self):
        for sign in "6789 \n,-+aAxo.;~!/:":
            self.fails(BadText(0), read_run, sign)
            self.fails(BadText(0), read_run, sign + "01" + sign)
            self.fails(BadText(2), read_run, "01" + sign + "01")
            self.fails(BadText(4), read_run, "0101" + sign)
        self.fails(BadText(1), read_run, "0 1")
        self.fails(BadText(0), read_run, " 01")
        self.fails(BadText(2), read_run, "01\n")

    def test_too_many_signs(self):
        self.same(read_run("5" * 900), (5,) * 900)
        self.fails(BadText(900), read_run, "5" * 901)
        self.fails(BadText(900), read_run, "01" * 1000)
        self.fails(BadText(900), read_run, "0" * 900 + "x")
        self.fails(BadText(899), read_run, "0" * 899 + "x")
        self.fails(BadText(899), read_run, "0" * 899 + "x" + "0" * 10)
        self.fails(BadText(3), read_run, "000x" + "0" * 1000)

    def test_beyond_the_bound(self):
        self.same(run_text((0,) * 950), "0" * 950)


if __name__ == "__main__":
    unittest.main()
