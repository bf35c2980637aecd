"""Stalls and keepings while hands may give up."""

from bowstands.aparts import is_safe
from bowstands.bounds import MAX_MOVES
from bowstands.drops import drop_behind, drop_trace
from bowstands.errors import BadRun, Unfit
from bowstands.loops import ever_barred, is_pair, is_run, return_error
from bowstands.runs import behind
from bowstands.stalls import round_error
from bowstands.standings import IN, REST, start
from bowstands.values import is_hand
from bowstands.walks import walked


def drop_stall_error(manners, value):
    """Return None if value is a stall behind a broken run, otherwise the first thing that is wrong with it."""
    many = len(manners[0])
    if not is_pair(value) or not _is_broken_run(value[0], many) or not is_run(value[1], many):
        return "form"
    run, again = value
    try:
        here = drop_behind(manners, start(manners), run)
    except BadRun as wrong:
        return ("run", wrong.place)
    return round_error(manners, here, again)


def _is_broken_run(value, many):
    """Return whether value is a broken run of some of so many hands."""
    if not isinstance(value, tuple) or len(value) > MAX_MOVES:
        return False
    return all([is_pair(item) and is_hand(item[0], many) and item[1] in ("go", "drop") for item in value])


def drop_keeping(manners, hand):
    """Return any drop keeping of hand: the first one at which it looks gives up again and again."""
    if not is_safe(manners):
        raise Unfit()
    other = manners[1][hand][0]
    here = behind(manners, start(manners), (other, other))
    waiting = ("low", 0) if manners[0][hand][other] == "bow" else ("look", 0)
    coming, _ = walked(manners, here, [(hand, waiting)])
    raising = ((other, "go"), (other, "go"))
    return (raising + tuple((one, "go") for one in coming), ((other, "drop"),) + raising)


def drop_keeping_error(manners, hand, value):
    """Return None if value is a drop keeping of hand, otherwise the first thing that is wrong with it."""
    many = len(manners[0])
    if not is_pair(value) or not all([_is_broken_run(run, many) for run in value]):
        return "form"
    run, again = value
    try:
        here = drop_behind(manners, start(manners), run)
    except BadRun as wrong:
        return ("run", wrong.place)
    if here[0][hand] == REST:
        return "rest"
    if here[0][hand] == IN:
        return "within"
    return _keeping_round_error(manners, hand, here, again)


def _keeping_round_error(manners, hand, here, again):
    try:
        standings = drop_trace(manners, here, again)
    except BadRun as wrong:
        return ("round", wrong.place)
    for place in range(len(again)):
        # Ahead of the first such pair hand neither rests nor is within: it comes there by giving up or going in.
        if standings[place + 1][0][hand] in (REST, IN):
            return ("word", place)
    return return_error(standings, [mover for mover, _ in again], ever_barred(manners, standings))
