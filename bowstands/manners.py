"""Manners: how each hand treats each other one, in which order it looks, and who is early."""

from bowstands.bounds import MAX_HANDS
from bowstands.values import is_hand

WORDS = ("stand", "bow", "even", "pass", "slip")


def manners_error(value):
    """Return None if value is manners, otherwise the first thing that is wrong with it."""
    if not _is_form(value):
        return "form"
    table, orders, early = value
    many = len(table)
    if not 2 <= many <= MAX_HANDS:
        return "hands"
    wrong = _table_error(table)
    if wrong is not None:
        return wrong
    if len(orders) != many:
        return "orders"
    for hand in range(many):
        if not _is_order(orders[hand], hand, many):
            return ("order", hand)
    if not _is_early(early, many):
        return "early"
    return None


def _is_form(value):
    if not isinstance(value, tuple) or len(value) != 3:
        return False
    return all([isinstance(part, tuple) for part in value])


def _table_error(table):
    many = len(table)
    for hand in range(many):
        if not _is_row(table[hand], hand, many):
            return ("row", hand)
    for one in range(many):
        for other in range(one + 1, many):
            if (table[one][other] == "even") != (table[other][one] == "even"):
                return ("even", one, other)
    return None


def _is_row(row, hand, many):
    if not isinstance(row, tuple) or len(row) != many:
        return False
    others = row[:hand] + row[hand + 1:]
    return row[hand] == "-" and all([word in WORDS for word in others])


def _is_order(order, hand, many):
    # Only hands can be sorted: the items may be of any kinds.
    if not isinstance(order, tuple) or not all([is_hand(other, many) for other in order]):
        return False
    return sorted(order) == others_of(hand, many)


def _is_early(early, many):
    if not all([is_hand(hand, many) for hand in early]):
        return False
    return all([early[place] < early[place + 1] for place in range(len(early) - 1)])


def others_of(hand, many):
    """Return the ascending list of the others of so many hands."""
    return [other for other in range(many) if other != hand]


def rising_orders(many):
    """Return the orders by which each of so many hands looks at the others, ascending."""
    return tuple(tuple(others_of(hand, many)) for hand in range(many))


def evens(manners, hand):
    """Return the hands with which hand is even, in its order."""
    table, orders, _ = manners
    return tuple(other for other in orders[hand] if table[hand][other] == "even")


def even_pairs(manners):
    """Return the ascending pairs (i, j), i < j, of hands that are even."""
    table = manners[0]
    many = len(table)
    return tuple((i, j) for i in range(many) for j in range(i + 1, many) if table[i][j] == "even")


def over_pairs(manners):
    """Return the ascending pairs (i, j) of which i stands for j, and j bows to i."""
    table = manners[0]
    many = len(table)
    return tuple((i, j) for i in range(many) for j in range(many) if _is_over(table, i, j))


def _is_over(table, one, other):
    return table[one][other] == "stand" and table[other][one] == "bow"


def renamed(manners, row):
    """Return the manners by which each hand i is called row[i]."""
    table, orders, early = manners
    # back[k] is the hand that is called k now.
    back = [row.index(name) for name in range(len(table))]
    new_table = tuple(_picked(table[hand], back) for hand in back)
    new_orders = tuple(_picked(row, orders[hand]) for hand in back)
    return (new_table, new_orders, tuple(sorted([row[hand] for hand in early])))


def _picked(items, places):
    return tuple(items[place] for place in places)
