"""Flags that flicker: standings in which flags may be changing, and steps by which they begin and end to change."""

from bowstands.errors import Unfit
from bowstands.manners import evens
from bowstands.standings import error_among, flag, places_of
from bowstands.steps import LOOKING, after, is_last, looked_at, next_step, seeing_step, stepped

# The words of the places at which a flag is changing, and those of the places ahead of them. (A flag is
# changing at "set", too; but ahead of that comes a handing, which is a step of its own.)
CHANGING = {"rise": "wish", "again": "anew", "sink": "yield", "empty": "in"}

# The words of the places at which a flag begins to change, and those of the places behind that.
BEGUN = {"wish": "rise", "anew": "again", "yield": "sink", "in": "empty"}

# The steps that the word of the place alone tells, where they are others than those of steps at once.
SLOW_STEPS = {"rise": "raised", "set": "set", "sink": "lowered", "empty": "left", "anew": "raise"}


def views(manners, standing, hand):
    """Return what may be seen of the flag of hand: one flag, or what it was and what it will be."""
    word = standing[0][hand][0]
    if word == "rise":
        return ("down", "half" if _sets(manners, hand) else "up")
    if word == "set":
        return ("half", "up")
    if word == "again":
        return ("down", "up")
    if word in ("sink", "empty"):
        return ("up", "down")
    return (flag(manners, standing, hand),)


def _sets(manners, hand):
    """Return whether the flag of hand is half up while it hands over."""
    return hand not in manners[2] and evens(manners, hand) != ()


def slow_error(manners, value):
    """Return None if value is a slow standing by manners, otherwise the first thing that is wrong with it."""
    return error_among(manners, value, [_slow_places(manners, hand) for hand in range(len(manners[0]))])


def _slow_places(manners, hand):
    """Return all places that there are for hand, also those at which its flag is changing."""
    found = places_of(manners, hand)
    changing = [(BEGUN[word], spot) for word, spot in found if word in BEGUN]
    if _sets(manners, hand):
        changing.append(("set", 0))
    return found + changing


def next_words(manners, standing, hand):
    """Return the ascending tuple of the words of all steps that hand may make next, "wait" among them."""
    word, spot = standing[0][hand]
    if word in LOOKING:
        return _seeing_words(manners, standing, hand)
    if word == "again":
        return ("enter",) if is_last(manners, spot) else ("raised",)
    if word in SLOW_STEPS:
        return (SLOW_STEPS[word],)
    return (next_step(manners, standing, hand),)


def _seeing_words(manners, standing, hand):
    seen = views(manners, standing, looked_at(manners, standing, hand))
    steps = [seeing_step(manners, standing, hand, one) for one in seen]
    found = {"wait" if step is None else step: True for step in steps}
    return tuple(sorted(list(found)))


def made(manners, standing, hand, word):
    """Return the slow standing behind the step of hand with this word; raise Unfit if it cannot make it."""
    if word == "wait" or word not in next_words(manners, standing, hand):
        raise Unfit()
    now, spot = standing[0][hand]
    if now in BEGUN:
        return _placed(standing, hand, (BEGUN[now], spot))
    if now in CHANGING:
        # What ends here is a step that begins at the place ahead, and is made at once.
        return stepped(manners, _placed(standing, hand, (CHANGING[now], spot)), hand)
    if now == "set":
        return _placed(standing, hand, ("look", 0))
    there = after(manners, standing, hand, word)
    if now == "hand" and there[0][hand] == ("look", 0):
        return _placed(there, hand, ("set", 0))
    return there


def _placed(standing, hand, place):
    """Return the standing with this place of hand."""
    places, tokens = standing
    return (places[:hand] + (place,) + places[hand + 1:], tokens)


def is_changing(standing, hand):
    """Return whether the flag of hand is changing."""
    word = standing[0][hand][0]
    return word in CHANGING or word == "set"
