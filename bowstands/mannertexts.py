"""The texts of manners: a line for each hand."""

from bowstands.bounds import MAX_HANDS
from bowstands.errors import BadManners, BadText
from bowstands.manners import WORDS, manners_error, others_of
from bowstands.values import read_figure

EARLY = "early "


def manners_text(manners):
    """Return the text of manners."""
    return "\n".join([_line(manners, hand) for hand in range(len(manners[0]))])


def _line(manners, hand):
    table, orders, early = manners
    mark = EARLY if hand in early else ""
    return mark + ", ".join([f"{other} {table[hand][other]}" for other in orders[hand]])


def read_manners(value):
    """Return the manners of which value is the text; raise BadText or BadManners if there are none."""
    if not isinstance(value, str):
        raise BadText(0)
    lines = value.split("\n")
    if len(lines) == 1:
        raise BadText(1)
    if len(lines) > MAX_HANDS:
        raise BadText(MAX_HANDS)
    told = _told(lines)
    wrong = manners_error(told)
    if wrong is not None:
        raise BadManners(wrong)
    return told


def _told(lines):
    rows = []
    orders = []
    for hand, line in enumerate(lines):
        pairs = _pairs(line, hand, len(lines))
        if pairs is None:
            raise BadText(hand)
        rows.append(_row(pairs, hand))
        orders.append(tuple(other for other, _ in pairs))
    early = tuple(hand for hand in range(len(lines)) if lines[hand].startswith(EARLY))
    return (tuple(rows), tuple(orders), early)


def _pairs(line, hand, many):
    """Return the pairs (other, word) that the line tells, in its order, None if it is wrong."""
    pairs = [_pair(part) for part in line.removeprefix(EARLY).split(", ")]
    if None in pairs:
        return None
    if sorted([other for other, _ in pairs]) != others_of(hand, many):
        return None
    return pairs


def _pair(part):
    figure, _, word = part.partition(" ")
    other = read_figure(figure)
    if other is None or word not in WORDS:
        return None
    return (other, word)


def _row(pairs, hand):
    treats = dict(pairs)
    treats[hand] = "-"
    return tuple(treats[other] for other in range(len(treats)))
