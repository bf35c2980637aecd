"""Ways that hands go one behind another, each of them alone."""

from bowstands.steps import stepped


def walked(manners, standing, stops):
    """Return the pair (run, standing behind it) of a way from standing on.

    stops are pairs (hand, place): each hand in turn makes steps until this is its place.
    """
    run = []
    now = standing
    for hand, place in stops:
        while now[0][hand] != place:
            now = stepped(manners, now, hand)
            run.append(hand)
    return (tuple(run), now)


def spot_of(manners, hand, other):
    """Return the spot at which hand looks at other."""
    return manners[1][hand].index(other)
