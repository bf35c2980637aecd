"""What stalls and keepings have in common: a run, and a round that goes back to where it begins."""

from bowstands.bounds import MAX_MOVES
from bowstands.standings import REST
from bowstands.steps import next_step
from bowstands.values import is_hand


def is_run(value, many):
    """Return whether value is a run of some of so many hands."""
    if not isinstance(value, tuple) or len(value) > MAX_MOVES:
        return False
    return all([is_hand(hand, many) for hand in value])


def is_loop(value, many):
    """Return whether value is a pair of runs of some of so many hands."""
    if not isinstance(value, tuple) or len(value) != 2:
        return False
    return all([is_run(run, many) for run in value])


def return_error(manners, here, again, told):
    """Return what is wrong with the way back of the round again from here, None if nothing is.

    told are the pairs (step, standing behind it) of the round.
    """
    standings = [here] + [standing for _, standing in told]
    if standings[-1] != here:
        return "back"
    for hand, place in enumerate(here[0]):
        if place != REST and hand not in again and not _is_ever_barred(manners, standings, hand):
            return ("hand", hand)
    return None


def _is_ever_barred(manners, standings, hand):
    return any([next_step(manners, standing, hand) is None for standing in standings])
