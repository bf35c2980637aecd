"""Rows of hands, and which pairs have to be left out so that no hurdle is left among the others."""


def row_of(many, pairs):
    """Return the row of so many hands in which the first one of each pair stands ahead of the second one.

    Again and again the least hand is put next that is behind none of those that are left: there is always one.
    """
    row = []
    left = list(range(many))
    while left:
        behind = [other for one, other in pairs if one in left]
        hand = [other for other in left if other not in behind][0]
        row.append(hand)
        left.remove(hand)
    return tuple(row)


def first_three(many, pairs):
    """Return the first three of so many hands each two of which are one of the pairs, None if there are none."""
    for i, j in pairs:
        for k in range(j + 1, many):
            if (i, k) in pairs and (j, k) in pairs:
                return (i, j, k)
    return None


def fewest_out(many, pairs, found):
    """Return the fewest of the pairs without which found(many, pairs) finds nothing.

    found returns pairs one of which, at least, has to be left out, None if all can stay.
    """
    most = 0
    out = _left_out(many, pairs, found, most)
    while out is None:
        most += 1
        out = _left_out(many, pairs, found, most)
    return out


def _left_out(many, pairs, found, most):
    """Return what is to be left out, None if it is more than so many pairs at most."""
    hurdle = found(many, pairs)
    if hurdle is None:
        return ()
    if most == 0:
        return None
    for pair in hurdle:
        fewer = tuple(other for other in pairs if other != pair)
        out = _left_out(many, fewer, found, most - 1)
        if out is not None:
            return (pair,) + out
    return None
