"""The logs of rooms: the edits that stand, as texts, and done once more."""

from bowstands.bounds import MAX_EDITS
from bowstands.errors import BadLog, BadManners, BadText, BowError
from bowstands.mannertexts import manners_text, read_manners
from bowstands.rooms import Room
from bowstands.values import read_figure


def log_text(log):
    """Return the text of log: a line for each edit."""
    return "".join([_line(word, told) + "\n" for word, told in log])


def _line(word, told):
    if word == "go":
        return f"go {told}"
    # The lines of manners stand in one line here.
    return "rule " + manners_text(told).replace("\n", "; ")


def read_log(value):
    """Return the log of which value is the text; raise BadText with the number of the first wrong line."""
    if not isinstance(value, str):
        raise BadText(0)
    lines = value.split("\n")
    if lines[-1] == "":
        lines = lines[:-1]
    log = []
    for place, line in enumerate(lines):
        edit = _edit(line)
        if edit is None or place >= MAX_EDITS:
            raise BadText(place)
        log.append(edit)
    return tuple(log)


def _edit(line):
    """Return the edit of which line is the text, None if there is none."""
    word, _, told = line.partition(" ")
    if word == "go":
        hand = read_figure(told)
        return None if hand is None else ("go", hand)
    if word != "rule":
        return None
    try:
        return ("rule", read_manners(told.replace("; ", "\n")))
    except (BadText, BadManners):
        return None


def room_behind(manners, value):
    """Return a new room on which the edits of value were done; raise BadLog where one cannot be done."""
    room = Room(manners)
    if not isinstance(value, tuple):
        raise BadLog(0)
    for place, item in enumerate(value):
        if not _is_edit(item):
            raise BadLog(place)
        try:
            _do(room, item)
        except BowError:
            raise BadLog(place)
    return room


def _is_edit(value):
    return isinstance(value, tuple) and len(value) == 2 and value[0] in ("go", "rule")


def _do(room, edit):
    word, told = edit
    if word == "go":
        room.go(told)
    else:
        room.rule(told)
