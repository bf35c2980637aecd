"""The fewest changes by which a table gets orders that free it."""

from bowstands.errors import Unfit
from bowstands.manners import even_pairs, over_pairs
from bowstands.orderings import is_plain, manners_of
from bowstands.rings import least_ring
from bowstands.rows import fewest_out, first_three, row_of


def fewest_changes(table):
    """Return the least number of pairs in which the table differs from one without a hurdle."""
    return len(_pairs_out(table))


def changed(table):
    """Return any plain table without a hurdle that differs from the table in as few pairs as can be."""
    out = _pairs_out(table)
    many = len(table)
    kept = [pair for pair in over_pairs(manners_of(table)) if pair not in out]
    row = row_of(many, kept)
    rows = [list(words) for words in table]
    for pair in out:
        # Whoever stands ahead in the row may be over the other one.
        first, second = sorted([row.index(hand) for hand in pair])
        rows[row[first]][row[second]] = "stand"
        rows[row[second]][row[first]] = "bow"
    return tuple(tuple(words) for words in rows)


def _pairs_out(table):
    """Return the pairs that have to be changed, of some that can be."""
    if not is_plain(table):
        raise Unfit()
    many = len(table)
    manners = manners_of(table)
    out = [(i, j) for i in range(many) for j in range(i + 1, many) if _are_alike(table, i, j)]
    out.extend(fewest_out(many, even_pairs(manners), _three_pairs))
    out.extend(fewest_out(many, over_pairs(manners), _ring_pairs))
    return out


def _are_alike(table, i, j):
    """Return whether both stand or both bow."""
    return table[i][j] == table[j][i] and table[i][j] != "even"


def _three_pairs(many, pairs):
    """Return the pairs of three hands that are even with one another, None if there are none."""
    three = first_three(many, pairs)
    if three is None:
        return None
    i, j, k = three
    return ((i, j), (i, k), (j, k))


def _ring_pairs(many, pairs):
    """Return the pairs of a ring of hands each of which is over the next one, None if there is none."""
    ring = least_ring([[j for i, j in pairs if i == hand] for hand in range(many)])
    if ring is None:
        return None
    return tuple([(ring[place - 1], ring[place]) for place in range(len(ring))])
