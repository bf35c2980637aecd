"""Standings: the place of each hand, and who has each token."""

from bowstands.manners import even_pairs, evens
from bowstands.values import is_whole

# The words of places that have no other spot than 0.
SPOTLESS = ("rest", "wish", "in")

REST = ("rest", 0)

WISH = ("wish", 0)

IN = ("in", 0)


def start(manners):
    """Return the standing in which all rest, each token with the lesser one of its two."""
    places = (REST,) * len(manners[0])
    return (places, tuple((i, j, i) for i, j in even_pairs(manners)))


def places_of(manners, hand):
    """Return all places that there are for hand by manners."""
    table, orders, _ = manners
    places = [(word, 0) for word in SPOTLESS]
    places.extend([("hand", spot) for spot in range(len(evens(manners, hand)))])
    for spot, other in enumerate(orders[hand]):
        places.append(("look", spot))
        treats = table[hand][other]
        if treats in ("bow", "slip"):
            places.append(("yield", spot))
            places.append(("low", spot))
        if treats == "slip":
            places.append(("anew", spot))
    return places


def standing_error(manners, value):
    """Return None if value is a standing by manners, otherwise the first thing that is wrong with it."""
    return error_among(manners, value, [places_of(manners, hand) for hand in range(len(manners[0]))])


def error_among(manners, value, lots):
    """Return what standing_error does, if lots are the lists of the places that there are for the hands."""
    if not _is_form(value):
        return "form"
    places, tokens = value
    if len(places) != len(lots):
        return "places"
    for hand, place in enumerate(places):
        if not _is_place(place, lots[hand]):
            return ("place", hand)
    pairs = even_pairs(manners)
    if len(tokens) != len(pairs):
        return "tokens"
    for spot, pair in enumerate(pairs):
        if not _is_token(tokens[spot], pair):
            return ("token", spot)
    return None


def _is_form(value):
    if not isinstance(value, tuple) or len(value) != 2:
        return False
    return isinstance(value[0], tuple) and isinstance(value[1], tuple)


def _is_place(value, lot):
    # False is no spot, though Python holds it equal to 0.
    if not isinstance(value, tuple) or len(value) != 2 or not is_whole(value[1]):
        return False
    return value in lot


def _is_token(value, pair):
    if not isinstance(value, tuple) or not all([is_whole(item) for item in value]):
        return False
    return value in (pair + pair[:1], pair + pair[1:])


def flag(manners, standing, hand):
    """Return whether the flag of hand is "down", "half" or "up"."""
    word = standing[0][hand][0]
    if word in ("look", "yield", "in"):
        return "up"
    if word == "hand" and hand not in manners[2]:
        return "half"
    return "down"


def holder(standing, one, other):
    """Return which of both has the token of one and other, None if there is none."""
    pair = (min(one, other), max(one, other))
    for i, j, who in standing[1]:
        if (i, j) == pair:
            return who
    return None


def inside(standing):
    """Return the ascending tuple of the hands that are within."""
    places = standing[0]
    return tuple(hand for hand in range(len(places)) if places[hand][0] == "in")
