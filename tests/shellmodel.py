"""The shell told another way: by patterns of lines, over manners and the edits of a room."""

import re

from bowstands.aparts import faults
from bowstands.bounds import MAX_EDITS
from bowstands.changes import fewest_changes
from bowstands.homes import home_bound, home_run
from bowstands.keepouts import can_be_kept_out, most_passed
from bowstands.mannertexts import manners_text, read_manners
from bowstands.orderings import free_orders, hurdle, told_orders
from bowstands.stalls import stuck_ring
from tests import model
from tests.roommodel import Told

OF_ROOM = "standing inside entered movers waits log undo go rule next home".split()

PATTERNS = (
    r"(manners|rule) ((?:.|\n)*)", r"(open|undo|standing|inside|entered|movers|waits|log)()",
    r"(text|faults|stuck|bound|hurdle|told|free|changes)()", r"(go|next|kept|passed) ([0-5])", r"(home) ([0-5]{1,60})",
)


def figures(hands, sign=" "):
    return sign.join(str(hand) for hand in hands) or "nobody"


def flat(values):
    """The hands of something, without the tuples among them."""
    for value in values:
        if isinstance(value, tuple):
            yield from flat(value)
        else:
            yield value


class Model:
    """What is due of a shell."""

    def __init__(self):
        self.manners = None
        self.first = None
        self.edits = None

    def due(self, line):
        """The answer that is due to line, which is done."""
        found = [re.fullmatch(pattern, line) for pattern in PATTERNS] if isinstance(line, str) else []
        found = [match for match in found if match]
        if not found:
            return "what"
        word, more = found[0].groups()
        if word in OF_ROOM and self.edits is None:
            return "no room"
        if word not in OF_ROOM and word != "manners" and self.manners is None:
            return "no manners"
        about = self.manners if word in ("kept", "passed") else self.told().manners if word == "next" else None
        if about is not None and int(more) >= len(about[0]):
            return "no hand"
        try:
            return getattr(self, "due_" + word)(*([more] if more or word in ("manners", "rule") else []))
        except ValueError as wrong:
            return "error " + type(wrong).__name__

    def told(self, edits=None):
        return Told(self.first, self.edits if edits is None else edits)

    def due_manners(self, text):
        self.manners = read_manners(text)
        self.edits = None
        return str(len(self.manners[0])) + " hands"

    def due_open(self):
        self.first, self.edits = self.manners, []
        return "open"

    def edited(self, edit):
        self.edits = self.edits + [edit]
        return "version " + str(len(self.edits))

    def due_go(self, hand):
        can_go = len(self.edits) < MAX_EDITS and int(hand) in self.told().able()
        full = len(self.edits) == MAX_EDITS
        return self.edited(("go", int(hand))) if can_go else "error TooMany" if full else "error Refused"

    def due_rule(self, text):
        manners = read_manners(text)
        if len(self.edits) == MAX_EDITS:
            return "error TooMany"
        fits = self.told().is_at_rest() and len(manners[0]) == len(self.first[0])
        return self.edited(("rule", manners)) if fits else "error Refused"

    def due_undo(self):
        if not self.edits:
            return "error NothingToUndo"
        self.edits = self.edits[:-1]
        return "version " + str(len(self.edits))

    def due_standing(self):
        return model.text_of(self.told().standing)

    def due_inside(self):
        return figures(self.told().inside())

    def due_entered(self):
        return figures(self.told().entered)

    def due_movers(self):
        return figures(self.told().able())

    def due_next(self, hand):
        made = model.step_of(self.told().manners, self.told().standing, int(hand))
        return made[0] if made else "barred"

    def due_waits(self):
        return figures([figures(pair) for pair in self.told().waits()], "; ")

    def due_home(self, picks):
        run = home_run(self.told().manners, self.told().standing, tuple(int(pick) for pick in picks))
        return "".join(str(hand) for hand in run)

    def due_log(self):
        lines = [
            "go " + str(told) if word == "go" else "rule " + "; ".join(manners_text(told).split("\n"))
            for word, told in self.edits
        ]
        return "".join(line + "\n" for line in lines)

    def due_text(self):
        return manners_text(self.manners)

    def due_faults(self):
        return "; ".join(" ".join(str(item) for item in flat(triple)) for triple in faults(self.manners)) or "none"

    def due_stuck(self):
        return " ".join(str(item) for item in flat(stuck_ring(self.manners) or ("never",)))

    def due_bound(self):
        return str(home_bound(self.manners))

    def due_kept(self, hand):
        return ("no", "yes")[can_be_kept_out(self.manners, int(hand))]

    def due_passed(self, hand):
        return str(most_passed(self.manners, int(hand)))

    def due_hurdle(self):
        return " ".join(str(item) for item in flat(hurdle(self.manners[0]) or ("none",)))

    def due_told(self):
        return manners_text((self.manners[0], told_orders(self.manners[0]), ()))

    def due_free(self):
        return str(free_orders(self.manners[0]))

    def due_changes(self):
        return str(fewest_changes(self.manners[0]))
