"""The steps of hands: which one is next, and the standing behind it."""

from bowstands.errors import Unfit
from bowstands.manners import evens
from bowstands.standings import REST, flag, holder

# The words of the places at which the next step hangs on another flag.
LOOKING = ("look", "low")

# The steps that the word of the place alone tells.
PLAIN_STEPS = {"rest": "begin", "wish": "raise", "hand": "hand", "yield": "lower", "in": "leave"}


def next_step(manners, standing, hand):
    """Return the word of the next step of hand, None if it is barred."""
    word, spot = standing[0][hand]
    if word in LOOKING:
        seen = flag(manners, standing, looked_at(manners, standing, hand))
        return seeing_step(manners, standing, hand, seen)
    if word == "anew":
        return "enter" if is_last(manners, spot) else "raise"
    return PLAIN_STEPS[word]


def looked_at(manners, standing, hand):
    """Return the other hand at the spot of the place of hand, in its order."""
    return manners[1][hand][standing[0][hand][1]]


def seeing_step(manners, standing, hand, seen):
    """Return the word of the next step of hand, which looks at a flag, if it sees it so; None if it is barred."""
    word, spot = standing[0][hand]
    if word == "low":
        return "see" if seen == "down" else None
    if _goes_on(manners, standing, hand, seen):
        return "enter" if is_last(manners, spot) else "look"
    treats = manners[0][hand][looked_at(manners, standing, hand)]
    return "yield" if treats in ("bow", "slip") else None


def _goes_on(manners, standing, hand, seen):
    other = looked_at(manners, standing, hand)
    treats = manners[0][hand][other]
    if treats == "pass" or seen == "down":
        return True
    return treats == "even" and seen == "up" and holder(standing, hand, other) == hand


def is_last(manners, spot):
    """Return whether nobody is left to look at behind this spot of an order."""
    return spot == len(manners[0]) - 2


def stepped(manners, standing, hand):
    """Return the standing behind the next step of hand; raise Unfit if it is barred."""
    step = next_step(manners, standing, hand)
    if step is None:
        raise Unfit()
    return after(manners, standing, hand, step)


def after(manners, standing, hand, step):
    """Return the standing behind this step of hand, which is its next one."""
    places, tokens = standing
    if step == "hand":
        tokens = _handed(tokens, hand, evens(manners, hand)[places[hand][1]])
    place = _place_after(manners, standing, hand, step)
    return (places[:hand] + (place,) + places[hand + 1:], tokens)


def _handed(tokens, hand, other):
    pair = (min(hand, other), max(hand, other))
    return tuple(pair + (other,) if token[:2] == pair else token for token in tokens)


def _place_after(manners, standing, hand, step):
    word, spot = standing[0][hand]
    if step == "begin":
        return _begun(manners, hand)
    if step == "raise":
        return ("look", spot + 1) if word == "anew" else _raised(manners, hand)
    if step == "hand":
        return _place_handed(manners, hand, spot)
    if step == "look":
        return ("look", spot + 1)
    if step == "enter":
        return ("in", 0)
    if step == "yield":
        return ("yield", spot)
    if step == "lower":
        return ("low", spot)
    if step == "see":
        return _seen(manners, standing, hand)
    return REST


def _begun(manners, hand):
    if hand in manners[2] and evens(manners, hand):
        return ("hand", 0)
    return ("wish", 0)


def _raised(manners, hand):
    if hand not in manners[2] and evens(manners, hand):
        return ("hand", 0)
    return ("look", 0)


def _place_handed(manners, hand, spot):
    if spot + 1 < len(evens(manners, hand)):
        return ("hand", spot + 1)
    # Who is early has handed all over, and its flag is still down.
    return ("wish", 0) if hand in manners[2] else ("look", 0)


def _seen(manners, standing, hand):
    treats = manners[0][hand][looked_at(manners, standing, hand)]
    if treats == "slip":
        return ("anew", standing[0][hand][1])
    return _begun(manners, hand)


def movers(manners, standing):
    """Return the ascending tuple of all hands that are not barred."""
    many = len(manners[0])
    return tuple(hand for hand in range(many) if next_step(manners, standing, hand) is not None)
