"""Plain tables for the tests of [G]: all of few hands, some of many; and values that are none."""

import itertools

from tests.support import TWO, odd_values, random_manners

PLAIN = ("stand", "bow", "even")

# How two hands i < j can treat one another: the words at [i][j] and at [j][i].
TREATS = (("stand", "bow"), ("bow", "stand"), ("even", "even"), ("stand", "stand"), ("bow", "bow"))


def table_of(many, treats):
    """The table by the words of each pair i < j, ascending."""
    rows = [["-"] * many for _ in range(many)]
    for (i, j), (one, other) in zip(itertools.combinations(range(many), 2), treats):
        rows[i][j], rows[j][i] = one, other
    return tuple(map(tuple, rows))


def all_tables(many):
    """All plain tables of so many hands."""
    pairs = many * (many - 1) // 2
    return [table_of(many, treats) for treats in itertools.product(TREATS, repeat=pairs)]


def free_table(dice, many):
    """A plain table of so many hands that has no hurdle."""
    row = dice.sample(range(many), many)
    lots = [dice.randrange(2) for _ in range(many)]
    rows = [["-"] * many for _ in range(many)]
    for one, other in itertools.combinations(row, 2):
        rows[one][other], rows[other][one] = "stand", "bow"
        # Three of two lots are never even with one another.
        if lots[one] != lots[other] and dice.random() < 0.6:
            rows[one][other] = rows[other][one] = "even"
    return tuple(map(tuple, rows))


def some_tables(dice, many, number):
    """Plain tables of so many hands, with hurdles and without."""
    found = [random_manners(dice, many, PLAIN)[0] for _ in range(number)]
    found += [random_manners(dice, many, ("even", "stand"))[0] for _ in range(number)]
    for _ in range(number):
        rows = [list(row) for row in free_table(dice, many)]
        for _ in range(dice.randrange(3)):
            i, j = dice.sample(range(many), 2)
            rows[i][j], rows[j][i] = dice.choice(TREATS)
        found.append(tuple(map(tuple, rows)))
    return found


def no_tables():
    """Values of all kinds that are no plain tables."""
    table = (("-", "stand", "even"), ("bow", "-", "even"), ("even", "even", "-"))
    found = [value for value in odd_values() if value != TWO[0]]
    found += [list(table), [list(row) for row in table], table[:2], table + (("-",),), (table,), {0: table}]
    found += [table[:2] + (list(table[2]),), ((("-",),)), (("-",),), ((), ()), (None, None), ("-e", "e-"), "-e"]
    for word in ("pass", "slip", "-", "Stand", "", None, True, 0, ("stand",), ["stand"], {"stand": 1}, "stand "):
        found.append((("-", word, "even"),) + table[1:])
        found.append(table[:2] + ((word, "even", "-"),))
    found.append((("even", "even"), ("even", "-")))
    found.append((("-", "even"), ("bow", "-")))
    found.append((("-", "stand"), ("even", "-")))
    found.append((("-", "pass"), ("pass", "-")))
    found.append((("-", "slip"), ("slip", "-")))
    found.append(table_of(7, [("stand", "bow")] * 21))
    found.append((("-",),) * 1000)
    return found
