"""The texts of standings."""

from bowstands.errors import BadText
from bowstands.manners import even_pairs
from bowstands.standings import SPOTLESS, places_of


def standing_text(manners, standing):
    """Return the text of standing, which is one by manners."""
    places, tokens = standing
    text = ", ".join([_place_text(place) for place in places])
    if not tokens:
        return text
    return text + "; " + " ".join([str(who) for _, _, who in tokens])


def _place_text(place):
    word, spot = place
    return word if word in SPOTLESS else f"{word} {spot}"


def read_standing(manners, value):
    """Return the standing by manners of which value is the text; raise BadText if there is none."""
    if not isinstance(value, str):
        raise BadText(0)
    pairs = even_pairs(manners)
    placed, held = value, ""
    if pairs:
        placed, _, held = value.partition("; ")
    places = _read_places(manners, placed)
    tokens = _read_tokens(pairs, held)
    if places is None or tokens is None:
        raise BadText(0)
    return (places, tokens)


def _read_places(manners, text):
    parts = text.split(", ")
    if len(parts) != len(manners[0]):
        return None
    found = [_read_place(manners, hand, part) for hand, part in enumerate(parts)]
    return None if None in found else tuple(found)


def _read_place(manners, hand, text):
    for place in places_of(manners, hand):
        if _place_text(place) == text:
            return place
    return None


def _read_tokens(pairs, text):
    parts = text.split(" ") if pairs else []
    if len(parts) != len(pairs):
        return None
    found = [_read_token(pair, part) for pair, part in zip(pairs, parts)]
    return None if None in found else tuple(found)


def _read_token(pair, text):
    for who in pair:
        if str(who) == text:
            return pair + (who,)
    return None
