"""Rings of hands each of which bows to, or waits for, the next one."""


def bow_ring(manners):
    """Return the bow ring of the fewest hands, the least one of these, None if there is none."""
    return least_ring(_followers(manners, ("bow",)))


def wait_rings(manners):
    """Return the ascending tuple of all wait rings."""
    return tuple(_rings(_followers(manners, ("stand", "even"))))


def _followers(manners, words):
    """Return for each hand the ascending list of those that it treats by one of these words."""
    return [[other for other, word in enumerate(row) if word in words] for row in manners[0]]


def least_ring(followers):
    """Return the ring of the fewest hands, the least one of these, None if there is none.

    In a ring the next one of each hand is one of its followers, and the least hand comes first.
    """
    rings = _rings(followers)
    return min([(len(ring), ring) for ring in rings])[1] if rings else None


def _rings(followers):
    """Return the ascending list of all rings."""
    return [ring for hand in range(len(followers)) for ring in _rings_from(followers, (hand,))]


def _rings_from(followers, path):
    # Who is tried first is less, and a ring stands ahead of those that go on behind it: so they ascend.
    found = [path] if path[0] in followers[path[-1]] else []
    for other in followers[path[-1]]:
        if other > path[0] and other not in path:
            found.extend(_rings_from(followers, path + (other,)))
    return found
