"""Orders of looks: whether there are such as free a table of all stalls, and which do."""

from bowstands.bounds import MAX_HANDS
from bowstands.errors import Unfit
from bowstands.manners import even_pairs, manners_error, over_pairs, rising_orders
from bowstands.rings import bow_ring
from bowstands.rows import first_three, row_of
from bowstands.stalls import is_never_stuck

# How a hand treats those at which it looks first, then, and at last.
LOTS = ("bow", "even", "stand")


def is_plain(value):
    """Return whether value is a plain table."""
    if not isinstance(value, tuple) or not 2 <= len(value) <= MAX_HANDS:
        return False
    if manners_error(manners_of(value)) is not None:
        return False
    return all([word == "-" or word in LOTS for row in value for word in row])


def manners_of(table):
    """Return the manners of this table by which all orders are ascending, and nobody is early."""
    return (table, rising_orders(len(table)), ())


def hurdle(table):
    """Return the first thing that keeps all orders from being free, None if there is none."""
    if not is_plain(table):
        raise Unfit()
    manners = manners_of(table)
    bows = bow_ring(manners)
    if bows is not None:
        return ("bow", bows)
    many = len(table)
    for i in range(many):
        for j in range(i + 1, many):
            if table[i][j] == "stand" and table[j][i] == "stand":
                return ("stand", i, j)
    three = first_three(many, even_pairs(manners))
    return None if three is None else ("three",) + three


def told_orders(table):
    """Return the orders that free the table: first to whom a hand bows, then with whom it is even, then the others."""
    if hurdle(table) is not None:
        raise Unfit()
    row = row_of(len(table), over_pairs(manners_of(table)))
    return tuple(_told_order(treats, row) for treats in table)


def _told_order(treats, row):
    return tuple(other for lot in LOTS for other in row if treats[other] == lot)


def free_orders(table):
    """Return how many orders are free for the table of two or three hands."""
    if not is_plain(table) or len(table) > 3:
        raise Unfit()
    return len([orders for orders in _all_orders(len(table)) if is_never_stuck((table, orders, ()))])


def _all_orders(many):
    """Return the list of all orders of two or three hands."""
    found = [()]
    for order in rising_orders(many):
        choices = (order,) if many == 2 else (order, order[::-1])
        found = [told + (choice,) for told in found for choice in choices]
    return found
