"""What stalls and keepings have in common: a run, and a round that goes back to where it begins."""

from bowstands.bounds import MAX_MOVES
from bowstands.standings import REST
from bowstands.steps import next_step
from bowstands.values import is_hand


def is_run(value, many):
    """Return whether value is a run of some of so many hands."""
    if not isinstance(value, tuple) or len(value) > MAX_MOVES:
        return False
    return all([is_hand(hand, many) for hand in value])


def is_loop(value, many):
    """Return whether value is a pair of runs of some of so many hands."""
    if not isinstance(value, tuple) or len(value) != 2:
        return False
    return all([is_run(run, many) for run in value])


def first_idle(manners, standings, run):
    """Return the first hand that makes no step in run, and neither rests nor is barred at any time, None if none is so.

    standings are the one at the beginning of run and those behind its steps.
    """
    for hand, place in enumerate(standings[0][0]):
        if hand not in run and place != REST:
            if all([next_step(manners, standing, hand) is not None for standing in standings]):
                return hand
    return None
