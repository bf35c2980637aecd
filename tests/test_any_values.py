"""[A3]: where any value may be handed in, no other errors are raised than the package's own, and nothing is changed."""

import random
import unittest

from bowstands.changes import changed, fewest_changes
from bowstands.dropstalls import drop_keeping_error, drop_stall_error
from bowstands.errors import BowError
from bowstands.flickers import slow_error
from bowstands.keepouts import keeping_error
from bowstands.kinds import known
from bowstands.manners import manners_error
from bowstands.mannertexts import manners_text, read_manners
from bowstands.orderings import free_orders, hurdle, told_orders
from bowstands.roomlogs import read_log, room_behind
from bowstands.rooms import Room
from bowstands.runtexts import read_run
from bowstands.shells import Shell
from bowstands.slowstalls import slow_keeping_error, slow_stall_error
from bowstands.stalls import stall_error
from bowstands.standings import standing_error
from bowstands.standingtexts import read_standing
from bowstands.times import order_error
from tests import model, slowmodel
from tests.support import MIXED, TWO, Case, odd_values, random_manners

PARTS = (
    (0, 1), ("go", 0), (0, "go"), (0, "begin"), ("rest", 0), ("look", 0), ((0, 1, 0),), "-", "even", "stand", "rest",
    "look", "drop", "go", ("raise", 0),
)


def spoilt(dice, value, atoms):
    """The value with something in it put in, taken out or exchanged."""
    if isinstance(value, tuple) and value and dice.random() < 0.85:
        items = list(value)
        place = dice.randrange(len(items))
        change = dice.random()
        if change < 0.65:
            items[place] = spoilt(dice, items[place], atoms)
        elif change < 0.75:
            del items[place]
        elif change < 0.9:
            items.insert(place, dice.choice(atoms))
        else:
            return items
        return tuple(items)
    if isinstance(value, str) and value and dice.random() < 0.6:
        place = dice.randrange(len(value))
        return value[:place] + dice.choice(("", "0", " ", "\n", "; ", ", ")) + value[place + dice.randrange(2):]
    return dice.choice(atoms)


def calls(manners, hand, value):
    """All calls that take any value."""
    return (
        (manners_error, value), (read_manners, value), (standing_error, manners, value),
        (read_standing, manners, value),
        (read_run, value), (order_error, known("proud", 2), (0, 1), value), (stall_error, manners, value),
        (keeping_error, manners, hand, value), (hurdle, value), (told_orders, value), (free_orders, value),
        (fewest_changes, value), (changed, value), (read_log, value), (room_behind, value, value),
        (room_behind, manners, value), (Room, value), (Room(manners).go, value), (Room(manners).rule, value),
        (Room(manners).__eq__, value), (Room(manners).__ne__, value), (slow_error, manners, value),
        (slow_stall_error, manners, value), (slow_keeping_error, manners, hand, value),
        (drop_stall_error, manners, value), (drop_keeping_error, manners, hand, value), (Shell().say, value),
    )


class AnyValues(Case):
    def check(self, manners, hand, value):
        before = repr(value)
        for call, *told in calls(manners, hand, value):
            try:
                call(*told)
            except BowError:
                pass
        self.assertEqual(repr(value), before)

    def test_odd_values(self):
        for value in odd_values() + [Room(TWO), (Room(TWO),) * 2, (Room(TWO), TWO[1], ()), Shell(), [Room(TWO)]]:
            for manners in (TWO, MIXED, known("meek", 2)):
                self.check(manners, 1, value)

    def test_spoilt_values(self):
        dice = random.Random(1701)
        atoms = odd_values() + list(PARTS) + [Room(TWO), MIXED]
        for _ in range(400):
            manners = dice.choice((TWO, MIXED, known("meek", 2), random_manners(dice, dice.randrange(2, 7))))
            value = dice.choice((
                manners, manners[0], model.random_standing(dice, manners), slowmodel.random_standing(dice, manners),
                ((0, 1, 0), (1,)), (("go", 0), ("rule", manners), ("go", 1)),
                (((0, "begin"), (0, "raise")), ((1, "begin"),)),
                (((0, "go"), (0, "drop")), ((1, "go"),)), (((0, "go"), (0, "go")), (1, 0)), manners_text(manners),
                "go 0\nrule 1 even; 0 even\n", "0101", "rest, rest; 0", (("raise", 0), ("raise", 1), ("look", 0, 1)),
            ))
            for _ in range(dice.randrange(4)):
                value = spoilt(dice, value, atoms)
            self.check(manners, dice.randrange(len(manners[0])), value)


if __name__ == "__main__":
    unittest.main()
