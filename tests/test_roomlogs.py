"""[J4] to [J7]: bowstands.roomlogs."""

import copy
import random
import re
import unittest

from bowstands.bounds import MAX_EDITS
from bowstands.errors import BadLog, BadManners, BadText
from bowstands.kinds import known
from bowstands.manners import manners_error
from bowstands.mannertexts import manners_text, read_manners
from bowstands.roomlogs import log_text, read_log, room_behind
from bowstands.rooms import Room
from tests.roommodel import Told, shown
from tests.support import MIXED, TWO, Case, edited, many_manners, odd_values, outcome, random_manners

LATE = (MIXED[0], ((2, 1), (0, 2), (1, 0)), ())
HOME = (("go", 0),) * 5


def random_log(dice, length):
    """A log of edits that need not be done one behind another."""
    log = []
    for _ in range(length):
        if dice.random() < 0.6:
            log.append(("go", dice.randrange(6)))
        else:
            log.append(("rule", random_manners(dice, dice.choice((2, 3, 4, 6)))))
    return tuple(log)


def is_line(line):
    """Whether the line is the text of an edit."""
    if re.fullmatch("go [0-5]", line):
        return True
    return line[:5] == "rule " and outcome(read_manners, line[5:].replace("; ", "\n"))[0] == "returned"


def due_of(text):
    """What read_log has to do with a string: the number of the line at fault, None if there is none."""
    lines = text.split("\n")
    lines = lines[:-1] if lines[-1] == "" else lines
    for place, line in enumerate(lines):
        if not is_line(line) or place == MAX_EDITS:
            return place
    return None


class Texts(Case):
    def test_whole_texts(self):
        for log, due in (
            ((), ""),
            ((("go", 5),), "go 5\n"),
            ((("rule", MIXED), ("go", 1)), "rule 2 even, 1 stand; 0 bow, 2 even; 0 even, 1 even\ngo 1\n"),
            ((("rule", (TWO[0], TWO[1], (0, 1))),), "rule early 1 even; early 0 even\n"),
        ):
            self.same(log_text(log), due)
            self.same(read_log(due), log)
            self.same(read_log(due[:-1]), log)

    def test_there_and_back(self):
        dice = random.Random(907)
        texts = {}
        for number in range(120):
            log = random_log(dice, dice.randrange(MAX_EDITS + 1) if number % 3 == 0 else dice.randrange(4))
            text = log_text(log)
            self.same(read_log(text), log)
            self.same(text.count("\n"), len(log))
            self.assertEqual(texts.setdefault(text, log), log)
            self.keeps(log_text, log)
            self.keeps(read_log, text)

    def test_one_sign_otherwise(self):
        for text in (
            "go 0\nrule 1 even; 0 even\ngo 5\n",
            "rule 1 slip; early 0 pass\ngo 3",
            "go 1\n",
            "rule 1 bow, 2 bow; 2 stand, 0 stand; early 0 pass, 1 slip\n",
        ):
            for other in edited(text, " \n0156;,:gorule-"):
                place = due_of(other)
                if place is not None:
                    self.fails(BadText(place), read_log, other)
                    continue
                self.assertIn(log_text(read_log(other)), (other, other + "\n"))

    def test_wrong_lines(self):
        for place, text in (
            (0, "go"), (0, "go "), (0, "go 6"), (0, "go 00"), (0, " go 0"), (0, "Go 0"), (0, "go  0"), (0, "go 0 "),
            (0, "rule"), (0, "rule "), (0, "rule 1 even"), (0, "rule 1 even; 0 even; "), (0, "rule  1 even; 0 even"),
            (0, "rule 1 even ;0 even"), (0, "undo"), (0, "\n"), (0, "\n\n"), (0, "\ngo 0"), (1, "go 0\n\ngo 0"),
            (1, "go 0\n\n"), (1, "go 0\nrule 1 even\n0 even\n"), (2, "go 0\ngo 1\ngo -1\ngo x"), (1, "go 3\ngo\t3"),
            (0, "rule 1 stop; 0 even"), (0, "rule 1 even; 0 stand"), (0, "rule early early 1 bow; 0 bow"),
            (0, "rule 1 bow; 0 bow; 0 bow"), (0, "go -0"), (0, "go +1"), (0, "go 0\r\n"), (0, "0"), (0, " "),
        ):
            self.fails(BadText(place), read_log, text)

    def test_sixty(self):
        lines = "go 0\n" * 60
        self.same(read_log(lines), (("go", 0),) * 60)
        self.same(read_log(lines[:-1]), (("go", 0),) * 60)
        for more in ("go 0", "go 0\n", "\n", "what", "go 0\nwhat\n", "go 1\n" * 3000):
            self.fails(BadText(60), read_log, lines + more)
        self.fails(BadText(59), read_log, lines[:-5] + "go 6\ngo 0\n")
        self.fails(BadText(3), read_log, "go 0\n" * 3 + "go 9\n" + lines)

    def test_no_string(self):
        for value in odd_values() + [(("go", 0),), [("go", 0)], Room(TWO), b"go 0"]:
            if not isinstance(value, str):
                self.fails(BadText(0), read_log, value)


class Behind(Case):
    def test_of_rooms(self):
        """room_behind of a room's first manners and edits is like it, also across rules."""
        dice = random.Random(911)
        for manners in many_manners(each=5, seed=911)[::3]:
            many = len(manners[0])
            room = Room(manners)
            for _ in range(dice.randrange(61)):
                told = Told(manners, room.edits)
                if told.is_at_rest() and dice.random() < 0.4:
                    room.rule(random_manners(dice, many))
                elif told.able():
                    room.go(dice.choice(told.able()[:2]))
            other = room_behind(manners, room.edits)
            self.assertTrue(other == room)
            self.same(shown(other), shown(room))
            self.same(read_log(log_text(room.edits)), room.edits)
            self.spoilt(dice, manners, room.edits)

    def spoilt(self, dice, manners, edits):
        """With one item that is none, or cannot be done, there is an error at its place."""
        if not edits:
            return
        place = dice.randrange(len(edits))
        ahead = Told(manners, edits[:place])
        barred = [("go", hand) for hand in ahead.hands() if hand not in ahead.able()]
        for item in barred + [
            ("go", 6), ("go", True), ("go", None), ("go", "0"), ("go",), ("go", 0, 0), ["go", 0], None, "go 0", (), 0,
            ("undo", 0), ("Go", 0), (None, 0), (("go", 0), 0), ("rule", MIXED[:2]), ("rule", None), ("rule", 0),
            ("rule", random_manners(dice, len(manners[0]) % 6 + 2)), {"go": 0}, (["go"], 0), Room(TWO),
        ]:
            is_other = isinstance(item, tuple) and item[:1] == ("rule",) and manners_error(item[1]) is None
            if is_other and len(item[1][0]) == len(manners[0]):
                continue
            self.fails(BadLog(place), room_behind, manners, edits[:place] + (item,) + edits[place + 1:])
            self.fails(BadLog(place), room_behind, manners, edits[:place] + (item, item))

    def test_each_error(self):
        for place, manners, edits in (
            (0, TWO, (("go", 2),)),
            (0, TWO, (("Rule", TWO),)),
            (0, TWO, (("", TWO),)),
            (0, TWO, ((None, TWO),)),
            (0, TWO, (("Go", 0),)),
            (0, TWO, (("rule", MIXED),)),
            (0, TWO, (("rule", TWO[:2]),)),
            (1, TWO, (("go", 1), ("rule", TWO))),
            (4, known("proud", 2), (("go", 0), ("go", 0), ("go", 1), ("go", 1), ("go", 1))),
            (60, TWO, HOME * 12 + (("go", 0),)),
            (60, TWO, HOME * 12 + (None,)),
            (60, TWO, HOME * 700),
            (6, TWO, HOME + (("rule", TWO), ("go", 7))),
        ):
            self.fails(BadLog(place), room_behind, manners, edits)
        self.same(room_behind(TWO, HOME * 12).version, 60)
        self.same(room_behind(TWO, ()).edits, ())

    def test_no_tuple(self):
        for value in odd_values() + [[], [("go", 0)], Room(TWO)]:
            if not isinstance(value, tuple):
                self.fails(BadLog(0), room_behind, TWO, value)
            elif value:
                self.fails(BadLog(0), room_behind, TWO, value)

    def test_manners_first(self):
        """What Room raises comes ahead of what is wrong with the log."""
        for value in odd_values() + [TWO[:2], Room(TWO), (TWO[0], TWO[1], (2,))]:
            error = manners_error(value)
            if error is None:
                continue
            for edits in ((), (("go", 0),), None, [None], (None,)):
                self.fails(BadManners(error), room_behind, value, edits)

    def test_new_each_time(self):
        edits = (("go", 1), ("go", 1))
        one, other = room_behind(TWO, edits), room_behind(TWO, edits)
        self.assertTrue(one == other and one is not other)
        one.go(1)
        self.same(other.version, 2)
        before = copy.deepcopy(edits)
        self.same(room_behind(manners=TWO, value=edits).version, 2)
        self.same(edits, before)
        self.same(manners_text(room_behind(TWO, HOME + (("rule", known("meek", 2)),)).manners), "1 bow\n0 bow")


if __name__ == "__main__":
    unittest.main()
