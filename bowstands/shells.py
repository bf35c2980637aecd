"""A shell: lines that ask of manners and of a room, or do something with these, and the answers."""

from bowstands.aparts import faults
from bowstands.changes import fewest_changes
from bowstands.errors import BowError
from bowstands.homes import home_bound, home_run
from bowstands.keepouts import can_be_kept_out, most_passed
from bowstands.mannertexts import manners_text, read_manners
from bowstands.orderings import free_orders, hurdle, told_orders
from bowstands.roomlogs import log_text
from bowstands.rooms import Room
from bowstands.runtexts import run_text
from bowstands.stalls import stuck_ring
from bowstands.standingtexts import standing_text
from bowstands.steps import movers, next_step
from bowstands.values import is_hand, read_figure

MOST_PICKS = 60


def _hands(hands):
    return " ".join([str(hand) for hand in hands]) if hands else "nobody"


def _standing(room):
    return standing_text(room.manners, room.standing)


def _inside(room):
    return _hands(room.inside())


def _entered(room):
    return _hands(room.entered())


def _movers(room):
    return _hands(movers(room.manners, room.standing))


def _waits(room):
    pairs = room.waits()
    return "; ".join([_hands(pair) for pair in pairs]) if pairs else "nobody"


def _log(room):
    return log_text(room.edits)


def _undo(room):
    return f"version {room.undo()}"


def _go(room, hand):
    return f"version {room.go(hand)}"


def _rule(room, text):
    return f"version {room.rule(read_manners(text))}"


def _next(room, hand):
    step = next_step(room.manners, room.standing, hand)
    return "barred" if step is None else step


def _home(room, picks):
    return run_text(home_run(room.manners, room.standing, picks))


def _text(manners):
    return manners_text(manners)


def _faults(manners):
    found = faults(manners)
    lines = [" ".join([str(item) for item in (i, j) + told]) for i, j, told in found]
    return "; ".join(lines) if lines else "none"


def _stuck(manners):
    found = stuck_ring(manners)
    return "never" if found is None else found[0] + " " + _hands(found[1])


def _bound(manners):
    return str(home_bound(manners))


def _kept(manners, hand):
    return "yes" if can_be_kept_out(manners, hand) else "no"


def _passed(manners, hand):
    return str(most_passed(manners, hand))


def _hurdle(manners):
    found = hurdle(manners[0])
    if found is None:
        return "none"
    # The hands of a ring stand in a tuple of their own.
    hands = found[1] if found[0] == "bow" else found[1:]
    return found[0] + " " + _hands(hands)


def _told(manners):
    table = manners[0]
    return manners_text((table, told_orders(table), ()))


def _free(manners):
    return str(free_orders(manners[0]))


def _changes(manners):
    return str(fewest_changes(manners[0]))


# What answers the lines of one word alone.
ALONE = {
    "standing": _standing, "inside": _inside, "entered": _entered, "movers": _movers, "waits": _waits, "log": _log,
    "undo": _undo, "text": _text, "faults": _faults, "stuck": _stuck, "bound": _bound, "hurdle": _hurdle,
    "told": _told, "free": _free, "changes": _changes,
}

# What answers the lines that tell more behind their word.
WITH_MORE = {"go": _go, "rule": _rule, "next": _next, "home": _home, "kept": _kept, "passed": _passed}

# The words of the lines that need a room; what is neither here nor "manners" needs manners.
OF_ROOM = ("standing", "inside", "entered", "movers", "waits", "log", "undo", "go", "rule", "next", "home")


def _read(line):
    """Return the pair of the word of the line and what it tells behind it, None if it is no line."""
    if not isinstance(line, str):
        return None
    if line == "open" or line in ALONE:
        return (line, None)
    word, blank, rest = line.partition(" ")
    if blank == "":
        return None
    if word in ("manners", "rule"):
        return (word, rest)
    if word in ("go", "next", "kept", "passed"):
        told = read_figure(rest)
    elif word == "home":
        told = _read_picks(rest)
    else:
        told = None
    return None if told is None else (word, told)


def _read_picks(text):
    picks = [read_figure(sign) for sign in text]
    if not 1 <= len(picks) <= MOST_PICKS or None in picks:
        return None
    return tuple(picks)


class Shell:
    """Manners and a room, and what lines do with them."""

    def __init__(self):
        self._manners = None
        self._room = None

    def say(self, line):
        """Do what line says, and return the answer."""
        read = _read(line)
        if read is None:
            return "what"
        word, told = read
        lack = self._lack(word, told)
        if lack is not None:
            return lack
        try:
            return self._answer(word, told)
        except BowError as wrong:
            return "error " + type(wrong).__name__

    def _lack(self, word, told):
        """Return what the shell lacks for a line, None if it lacks nothing."""
        if word == "manners":
            return None
        if word in OF_ROOM:
            if self._room is None:
                return "no room"
        elif self._manners is None:
            return "no manners"
        if word in ("kept", "passed") and not is_hand(told, len(self._manners[0])):
            return "no hand"
        if word == "next" and not is_hand(told, len(self._room.manners[0])):
            return "no hand"
        return None

    def _answer(self, word, told):
        if word == "manners":
            return self._take(read_manners(told))
        if word == "open":
            self._room = Room(self._manners)
            return "open"
        about = self._room if word in OF_ROOM else self._manners
        if told is None:
            action = ALONE[word]
            return action(about)
        action = WITH_MORE[word]
        return action(about, told)

    def _take(self, manners):
        self._manners = manners
        self._room = None
        return f"{len(manners[0])} hands"
