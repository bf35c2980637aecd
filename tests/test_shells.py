"""[K1] to [K3]: bowstands.shells."""

import random
import unittest

from bowstands.kinds import known
from bowstands.mannertexts import manners_text
from bowstands.rooms import Room
from bowstands.shells import Shell
from tests.roommodel import Told, homeward
from tests.shellmodel import Model
from tests.support import MIXED, TWO, WORDS, Case, edited, odd_values, random_manners
from tests.test_stalls import ranked_but

ASKS_MANNERS = "text faults stuck bound hurdle told free changes".split()
ASKS_ROOM = "standing inside entered movers waits log".split()
ASKS = ASKS_MANNERS + ASKS_ROOM + [
    f"{word} {hand}" for word in ("kept", "passed", "next") for hand in range(6)
] + ["home 0", "home 12", "home 543210"]

OF_TWO = "manners 1 even\n0 even"


def said(*lines):
    """A shell to which these lines were said."""
    shell = Shell()
    for line in lines:
        shell.say(line)
    return shell


class Shells(Case):
    def seen(self, shell):
        """All that a shell tells, without changing it."""
        return [shell.say(line) for line in ASKS]

    def says(self, shell, *pairs):
        for line, due in pairs:
            self.same(shell.say(line), due, line)

    def test_nothing_yet(self):
        shell = Shell()
        for line in ASKS_MANNERS + ["open", "kept 0", "kept 5", "passed 3"]:
            self.same(shell.say(line), "no manners", line)
        rooms = ASKS_ROOM + ["undo", "go 0", "go 5", "next 5", "home 0", "rule 1 even\n0 even", "rule ", "rule x"]
        for line in rooms:
            self.same(shell.say(line), "no room", line)
        shell.say(OF_TWO)
        for line in rooms:
            self.same(shell.say(line), "no room", line)

    def test_manners(self):
        shell = Shell()
        for many in (2, 3, 4, 5, 6):
            text = manners_text(known("ranked", many))
            self.says(shell, ("manners " + text, f"{many} hands"), ("text", text), ("open", "open"), ("go 1",
                "version 1"))
            self.says(shell, ("manners " + text, f"{many} hands"), ("go 1", "no room"), ("inside", "no room"))

    def test_wrong_manners(self):
        shell = said(OF_TWO, "open", "go 1")
        before = self.seen(shell)
        for text, name in (
            ("", "BadText"), ("1 even", "BadText"), ("1 even\n", "BadText"), (" 1 even\n0 even", "BadText"),
            ("1 even\n0 bow", "BadManners"), ("1 even; 0 even", "BadText"), ("x", "BadText"), ("\n", "BadText"),
        ):
            self.says(shell, ("manners " + text, "error " + name), ("rule " + text, "error " + name))
            self.same(self.seen(shell), before)

    def test_no_lines(self):
        shells = [Shell(), said(OF_TWO), said(OF_TWO, "open", "go 0", "go 0")]
        lines = [
            "", " ", "\n", "manners", "rule", "go", "next", "kept", "passed", "home", "go ", "home ",
            "Manners 1 even\n0 even",
            "go 6", "go 00", "go -1", "go a", "go 0 ", " go 0", "go  0", "go\t0", "go 0\n", "go\n0", "next 6",
            "next  0",
            "kept 6", "kept 0 0", "passed x", "passed 10", "home 6", "home 0 1", "home " + "0" * 61, "home  0",
            "home 0\n",
            "open ", " open", "Open", "open\n", "opened", "undo ", "undo 1", "undo 0", "standing 0", "log ",
            "text 1", "close",
            "waits 0", "movers ", "inside\n", "bound 2", "free 0", "told ", "stuck\n", "faults,", "version",
            "help", "home",
            "ask", "more", "_next", "0", "open open", "manners\n1 even\n0 even", "manner 1 even\n0 even", "go '0'",
        ]
        values = [value for value in odd_values() if not isinstance(value, str)]
        values += [("open",), ["open"], b"open", Room(TWO), Shell(), {"open": "open"}, MIXED]
        for shell in shells:
            before = self.seen(shell)
            for line in lines + values:
                self.same(shell.say(line), "what", line)
            self.same(self.seen(shell), before)

    def test_one_sign_otherwise(self):
        """Each line with one sign put in, taken out or exchanged, as the model tells."""
        ready = (OF_TWO, "open", "go 0", "go 1", "go 0", "go 0")
        for line in ASKS_MANNERS + ASKS_ROOM + ["open", "undo", "go 1", "next 0", "kept 1", "passed 0", "home 01"]:
            for other in edited(line, " \n0126a"):
                model = Model()
                for ahead in ready:
                    model.due(ahead)
                self.same(said(*ready).say(other), model.due(other), other)

    def test_rule(self):
        shell = said(OF_TWO, "open")
        self.says(
            shell,
            ("rule 1 stand\n0 bow", "version 1"), ("text", "1 even\n0 even"), ("standing", "rest, rest"),
            ("log", "rule 1 stand; 0 bow\n"), ("rule 1 stand, 2 stand\n0 bow, 2 bow\n0 bow, 1 bow", "error Refused"),
            ("go 1", "version 2"), ("rule 1 bow\n0 bow", "error Refused"), ("rule 1 bow\n0 even", "error BadManners"),
            ("rule 1 bow", "error BadText"), ("undo", "version 1"), ("undo", "version 0"), ("standing",
            "rest, rest; 0"),
            ("undo", "error NothingToUndo"), ("log", ""),
        )

    def test_of_room_by_its_rule(self):
        """What is asked of the room goes by the room's manners, what is asked of manners by the shell's."""
        shell = said(OF_TWO, "open", "rule 1 stand\n0 bow", "go 0", "go 0", "go 1", "go 1")
        self.says(
            shell,
            ("next 1", "yield"), ("next 0", "barred"), ("movers", "1"), ("waits", "0 1"), ("home 0", "11001111"),
            ("kept 1", "no"), ("stuck", "never"), ("passed 0", "1"), ("next 2", "no hand"), ("kept 2", "no hand"),
        )

    def test_asks_of_manners(self):
        for text, pairs in (
            ("1 bow\n0 bow", (("stuck", "bow 0 1"), ("bound", "error Unfit"), ("kept 0", "error Unfit"))),
            ("1 bow\n0 bow", (("passed 0", "0"), ("faults", "none"))),
            ("1 bow\n0 bow", (("hurdle", "bow 0 1"), ("told", "error Unfit"), ("free", "0"), ("changes", "1"))),
            ("1 stand\n0 stand", (("stuck", "wait 0 1"), ("bound", "8"), ("hurdle", "stand 0 1"), ("changes", "1"))),
            (manners_text(known("level", 4)), (("hurdle", "three 0 1 2"), ("free", "error Unfit"), ("changes", "2"))),
            (manners_text(known("ranked", 3)), (("kept 0", "no"), ("kept 2", "yes"), ("passed 0", "2"))),
            (manners_text(known("ranked", 3)), (("bound", "50"), ("stuck", "never"))),
            ("early 1 even\n0 even", (("faults", "0 1 early 0"), ("stuck", "error Unfit"))),
            ("early 1 even\n0 even", (("passed 1", "error Unfit"), ("kept 0", "error Unfit"))),
            ("early 1 even\n0 even", (("hurdle", "none"), ("told", "1 even\n0 even"), ("free", "1"), ("changes", "0"))),
            (
                "1 pass, 2 bow\n2 slip, 0 bow\n0 stand, 1 stand",
                (("faults", "0 1 pass 0 1; 1 2 slip 1 2"), ("hurdle", "error Unfit"), ("told", "error Unfit"),
                 ("free", "error Unfit"), ("changes", "error Unfit"), ("kept 2", "error Unfit"), ("kept 3", "no hand")),
            ),
        ):
            self.says(said("manners " + text), *pairs)

    def test_asks_of_room(self):
        shell = said("manners 1 stand\n0 stand", "open")
        self.says(
            shell,
            ("inside", "nobody"), ("entered", "nobody"), ("movers", "0 1"), ("waits", "nobody"),
            ("home 0", ""), ("log", ""),
            ("go 0", "version 1"), ("go 0", "version 2"), ("go 1", "version 3"), ("go 1", "version 4"),
            ("movers", "nobody"), ("waits", "0 1; 1 0"), ("next 0", "barred"), ("go 0", "error Refused"),
            ("home 0", ""),
            ("undo", "version 3"), ("home 5", "1"), ("home 0", "00111"), ("next 0", "enter"),
        )
        shell = said("manners 1 pass\n0 pass", "open", "go 0", "go 0", "go 0", "go 1", "go 1", "go 1")
        self.says(shell, ("inside", "0 1"), ("entered", "0 1"), ("faults", "0 1 pass 0 1"))
        shell = said("manners 1 bow\n0 bow", "open", "go 0", "go 0", "go 1", "go 1")
        self.says(shell, ("home 01", "error TooMany"), ("next 0", "yield"), ("home 0", "00110000"))

    def test_sixty(self):
        shell = said(*[OF_TWO, "open"] + ["go 0"] * 60)
        before = self.seen(shell)
        self.says(
            shell, ("go 0", "error TooMany"), ("go 5", "error TooMany"), ("rule 1 bow\n0 bow", "error TooMany"),
            ("rule 1 bow\n0 even", "error BadManners"),
        )
        self.same(self.seen(shell), before)
        self.says(shell, ("undo", "version 59"), ("home " + "0" * 60, "0"), ("home " + "0" * 61, "what"))

    def test_open_anew(self):
        shell = said(OF_TWO, "open", "go 0", "go 0")
        self.says(shell, ("open", "open"), ("standing", "rest, rest; 0"), ("undo", "error NothingToUndo"), ("log", ""))

    def test_by_name(self):
        self.same(Shell().say(line="open"), "no manners")

    def test_own_each(self):
        one, other = said(OF_TWO, "open"), said("manners 1 bow\n0 bow", "open")
        one.say("go 0")
        self.says(other, ("log", ""), ("text", "1 bow\n0 bow"))


class Sessions(Case):
    def line(self, dice, shell):
        """Any line."""
        many = dice.choice((2, 2, 3, 3, 4))
        kind = dice.random()
        if kind < 0.1:
            texts = [manners_text(random_manners(dice, many)), manners_text(ranked_but(dice, many, 1))]
            texts += [dice.choice(texts)[:-1], manners_text(random_manners(dice, many, WORDS[:3]))]
            return dice.choice(("manners ", "rule ", "rule ")) + dice.choice(texts)
        if kind < 0.18:
            return dice.choice(("open", "undo", "undo"))
        if kind < 0.7:
            return f"go {dice.randrange(many)}"
        return dice.choice(ASKS)

    def test_sessions(self):
        """Each answer as the model tells; what changes nothing, changes nothing."""
        dice = random.Random(1009)
        heads = set()
        for _ in range(40):
            shell, model = Shell(), Model()
            for _ in range(90):
                line = self.line(dice, shell)
                before = (model.manners, model.first, model.edits)
                due = model.due(line)
                self.same(shell.say(line), due, line)
                heads.add(due.split(" ")[0] if due[:5] != "error" else due)
                if due == "what" or due[:3] == "no " or due[:5] == "error" or line in ASKS:
                    self.assertEqual((model.manners, model.first, model.edits), before)
            for line in ASKS:
                self.same(shell.say(line), model.due(line), line)
        self.assertTrue({"error Refused", "error BadText", "error Unfit", "error NothingToUndo", "no",
            "version"} <= heads)

    def test_log(self):
        """[K3]: a new shell to which are said the lines of "log" tells the same."""
        dice = random.Random(1013)
        for _ in range(25):
            opened = manners_text(random_manners(dice, dice.choice((2, 3))))
            shell = said("manners " + opened, "open")
            edits = []
            told = Told(shell._room.first, edits)
            for _ in range(dice.randrange(40)):
                if told.is_at_rest() and dice.random() < 0.4:
                    text = manners_text(random_manners(dice, len(told.first[0])))
                    shell.say("rule " + text)
                else:
                    shell.say(f"go {dice.choice(homeward(told)[:1] + told.able() or [0])}")
                told = Told(told.first, shell._room.edits)
            other = said("manners " + opened, "open")
            for line in shell.say("log").splitlines():
                self.assertIn("version", other.say(line.replace("; ", "\n")))
            for line in ("standing", "inside", "entered", "log"):
                self.same(other.say(line), shell.say(line))

    def test_home(self):
        """[K3]: all rest behind the run that "home" tells."""
        dice = random.Random(1019)
        for _ in range(30):
            shell = said("manners " + manners_text(ranked_but(dice, dice.choice((2, 3)), 0)), "open")
            for _ in range(20):
                shell.say(f"go {dice.randrange(3)}")
            before = shell.say("standing")
            home = shell.say("home " + "".join(dice.choice("012345") for _ in range(dice.randrange(1, 61))))
            self.same(shell.say("standing"), before)
            self.same([shell.say("stuck"), shell.say("faults")], ["never", "none"])
            self.assertLessEqual(len(home), int(shell.say("bound")))
            while shell.say("undo") != "error NothingToUndo":
                pass


if __name__ == "__main__":
    unittest.main()
