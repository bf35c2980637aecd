"""All standings that come of start, and the nearest way to one of them."""

from bowstands.graphs import all_behind
from bowstands.standings import start


def standings_of(manners):
    """Return the ascending tuple of all standings that come of start; raise TooMany if they are too many."""
    return tuple(sorted(list(all_behind(manners, start(manners), ()))))


def nearest(manners, standing):
    """Return any run of as few steps as can be from start to standing, None if it does not come of start."""
    first = start(manners)
    graph = all_behind(manners, first, ())
    if standing not in graph:
        return None
    ahead = _ahead(graph)
    run = []
    now = standing
    while now != first:
        hand, now = ahead[now]
        run.append(hand)
    return tuple(run[::-1])


def _ahead(graph):
    """Return for each standing that is led to a pair (hand, standing ahead of it) of a shortest way."""
    ahead = {}
    # The nearest ones come first: so the first standing that leads to one is on a shortest way.
    for here in graph:
        for hand, _, there in graph[here]:
            if there not in ahead:
                ahead[there] = (hand, here)
    return ahead
