"""Ways home: nobody begins any more, and all that have begun go in and leave."""

from bowstands.aparts import is_safe
from bowstands.bounds import MAX_MOVES
from bowstands.errors import TooMany, Unfit
from bowstands.manners import evens
from bowstands.rings import bow_ring
from bowstands.standings import REST
from bowstands.steps import movers, stepped


def tries_most(manners, hand):
    """Return how many times at most the flag of hand goes down, if nobody begins any more."""
    _check(manners)
    return _tries(manners, hand)


def home_bound(manners):
    """Return how many steps at most all make till all rest, if nobody begins any more."""
    _check(manners)
    many = len(manners[0])
    return sum([_tries(manners, hand) * (len(evens(manners, hand)) + many + 2) for hand in range(many)])


def _check(manners):
    if not is_safe(manners) or bow_ring(manners) is not None:
        raise Unfit()


def _tries(manners, hand):
    # As there is no ring of bows this comes to an end.
    bows = [other for other in manners[1][hand] if manners[0][hand][other] == "bow"]
    if not bows:
        return 1
    return 2 + sum([_tries(manners, other) for other in bows])


def home_run(manners, standing, picks):
    """Return the run from standing on, till nobody can move without beginning; picks tell who moves."""
    run = []
    now = standing
    able = _able(manners, now)
    while able:
        if len(run) == MAX_MOVES:
            raise TooMany(MAX_MOVES)
        hand = able[picks[len(run) % len(picks)] % len(able)]
        now = stepped(manners, now, hand)
        run.append(hand)
        able = _able(manners, now)
    return tuple(run)


def _able(manners, standing):
    """Return the ascending list of the hands that neither rest nor are barred."""
    return [hand for hand in movers(manners, standing) if standing[0][hand] != REST]
