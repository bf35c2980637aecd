"""Rings of hands each of which bows to, or waits for, the next one."""


def bow_ring(manners):
    """Return the bow ring of the fewest hands, the least one of these, None if there is none."""
    rings = _rings(manners, ("bow",))
    return min([(len(ring), ring) for ring in rings])[1] if rings else None


def wait_rings(manners):
    """Return the ascending tuple of all wait rings."""
    return tuple(_rings(manners, ("stand", "even")))


def _rings(manners, words):
    """Return the ascending list of all rings, least hand first, of which each treats the next one by such a word."""
    table = manners[0]
    return [ring for hand in range(len(table)) for ring in _rings_from(table, words, (hand,))]


def _rings_from(table, words, path):
    # Who is tried first is less, and a ring stands ahead of those that go on behind it: so they ascend.
    last = table[path[-1]]
    found = [path] if last[path[0]] in words else []
    for other in range(path[0] + 1, len(table)):
        if other not in path and last[other] in words:
            found.extend(_rings_from(table, words, path + (other,)))
    return found
