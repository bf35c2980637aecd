"""Hands that give up: broken runs, by which hands make their next steps or give up."""

from bowstands.errors import BadRun, Unfit
from bowstands.standings import REST, inside
from bowstands.steps import stepped


def dropped(manners, standing, hand):
    """Return the standing behind the giving up of hand; raise Unfit if it rests."""
    places, tokens = standing
    if places[hand] == REST:
        raise Unfit()
    return (places[:hand] + (REST,) + places[hand + 1:], tokens)


def drop_trace(manners, standing, run):
    """Return the standings from standing on, one behind each pair of run; raise BadRun where one cannot be done."""
    told = [standing]
    for place, (hand, word) in enumerate(run):
        try:
            told.append(_done(manners, told[-1], hand, word))
        except Unfit:
            raise BadRun(place)
    return told


def _done(manners, standing, hand, word):
    if word == "drop":
        return dropped(manners, standing, hand)
    return stepped(manners, standing, hand)


def drop_behind(manners, standing, run):
    """Return the standing behind the broken run that begins at standing."""
    return drop_trace(manners, standing, run)[-1]


def drop_meeting(manners, standing, run):
    """Return the least number of pairs behind which two or more are within, None if there is none."""
    for number, now in enumerate(drop_trace(manners, standing, run)):
        if len(inside(now)) > 1:
            return number
    return None
