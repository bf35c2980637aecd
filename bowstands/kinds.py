"""Manners that are known by a word."""

from bowstands.manners import rising_orders

# Of each kind: how a hand treats those behind it, and how those ahead of it.
KINDS = {
    "ranked": ("stand", "bow"),
    "level": ("even", "even"),
    "meek": ("bow", "bow"),
    "proud": ("stand", "stand"),
}


def known(word, many):
    """Return the manners of this kind of so many hands, all orders ascending, nobody early."""
    table = tuple(_row(word, hand, many) for hand in range(many))
    return (table, rising_orders(many), ())


def _row(word, hand, many):
    to_later, to_earlier = KINDS[word]
    return (to_earlier,) * hand + ("-",) + (to_later,) * (many - 1 - hand)
