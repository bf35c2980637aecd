"""What stalls and keepings have in common: a run, and a round that goes back to where it begins."""

from bowstands.bounds import MAX_MOVES
from bowstands.standings import REST
from bowstands.steps import next_step
from bowstands.values import is_hand


def is_run(value, many):
    """Return whether value is a run of some of so many hands."""
    if not isinstance(value, tuple) or len(value) > MAX_MOVES:
        return False
    return all([is_hand(hand, many) for hand in value])


def is_loop(value, many):
    """Return whether value is a pair of runs of some of so many hands."""
    return is_pair(value) and all([is_run(run, many) for run in value])


def is_pair(value):
    """Return whether value is a tuple of two items."""
    return isinstance(value, tuple) and len(value) == 2


def ever_barred(manners, standings):
    """Return the list of the hands that are barred in some of the standings."""
    hands = range(len(manners[0]))
    return [hand for hand in hands if any([next_step(manners, now, hand) is None for now in standings])]


def return_error(standings, busy, barred):
    """Return what is wrong with the way back by a round, None if nothing is.

    standings are those of the round, in order; busy are the hands that make its steps, barred those that
    have to wait in some standing of it.
    """
    here = standings[0]
    if standings[-1] != here:
        return "back"
    for hand, place in enumerate(here[0]):
        # Who makes no step stays where it is: so who rests here rests in all of the round.
        if place != REST and hand not in busy and hand not in barred:
            return ("hand", hand)
    return None
