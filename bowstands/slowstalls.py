"""Stalls and keepings while flags flicker."""

from bowstands.bounds import MAX_SLOW
from bowstands.errors import BadRun
from bowstands.flickers import next_words
from bowstands.keepouts import keeping
from bowstands.loops import is_pair, return_error
from bowstands.runs import behind
from bowstands.slowruns import slow_behind, slow_trace, slowed, slowed_from
from bowstands.stalls import stall
from bowstands.standings import IN, REST, inside, start
from bowstands.values import is_hand


def slow_stall(manners):
    """Return any slow stall, None if there is none."""
    return _slowed_loop(manners, stall(manners))


def slow_keeping(manners, hand):
    """Return any slow keeping of hand, None if there is none."""
    return _slowed_loop(manners, keeping(manners, hand))


def _slowed_loop(manners, found):
    """Return the pair of slow runs of a pair of runs, None if there is none."""
    if found is None:
        return None
    run, again = found
    here = behind(manners, start(manners), run)
    return (slowed(manners, run), slowed_from(manners, here, again))


def slow_stall_error(manners, value):
    """Return None if value is a slow stall by manners, otherwise the first thing that is wrong with it."""
    if not _is_slow_loop(value, len(manners[0])):
        return "form"
    run, again = value
    try:
        here = slow_behind(manners, start(manners), run)
    except BadRun as wrong:
        return ("run", wrong.place)
    if inside(here):
        return "within"
    if all([place == REST for place in here[0]]):
        return "rest"
    barred_words = ("begin", "enter", "leave", "left")
    return _round_error(manners, here, again, [word in barred_words for _, word in again])


def slow_keeping_error(manners, hand, value):
    """Return None if value is a slow keeping of hand, otherwise the first thing that is wrong with it."""
    if not _is_slow_loop(value, len(manners[0])):
        return "form"
    run, again = value
    try:
        here = slow_behind(manners, start(manners), run)
    except BadRun as wrong:
        return ("run", wrong.place)
    if here[0][hand] == REST:
        return "rest"
    if here[0][hand] == IN:
        return "within"
    return _round_error(manners, here, again, [pair in ((hand, "enter"), (hand, "leave")) for pair in again])


def _is_slow_loop(value, many):
    """Return whether value is a pair of slow runs of some of so many hands."""
    return is_pair(value) and all([_is_slow_run(run, many) for run in value])


def _is_slow_run(value, many):
    if not isinstance(value, tuple) or len(value) > MAX_SLOW:
        return False
    return all([is_pair(item) and is_hand(item[0], many) and isinstance(item[1], str) for item in value])


def _round_error(manners, here, again, wrong_words):
    """Return None if the round again leads back to here, and nobody is idle in it that can move.

    wrong_words tell of each of its pairs whether its word may not stand there.
    """
    try:
        standings = slow_trace(manners, here, again)
    except BadRun as wrong:
        return ("round", wrong.place)
    if True in wrong_words:
        return ("word", wrong_words.index(True))
    waiting = [hand for hand in range(len(here[0])) if _ever_waits(manners, standings, hand)]
    return return_error(standings, [hand for hand, _ in again], waiting)


def _ever_waits(manners, standings, hand):
    return any(["wait" in next_words(manners, standing, hand) for standing in standings])
