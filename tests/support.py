"""What the tests share: strict comparing, values of all kinds, many manners."""

import copy
import itertools
import random
import unittest

WORDS = ("stand", "bow", "even", "pass", "slip")

TWO = ((("-", "even"), ("even", "-")), ((1,), (0,)), ())
MIXED = (
    (("-", "stand", "even"), ("bow", "-", "even"), ("even", "even", "-")),
    ((2, 1), (0, 2), (0, 1)),
    (),
)

# No manners, no standing, no text of anything; made anew for each caller.
def odd_values():
    return [
        None, True, False, 0, 1, -1, 10 ** 399, "", " ", "two", "early", "1", "\n" * 7, "0 even",
        (), [], {}, ((),), ((), ()), ((), (), ()), ((), (), (), ()), [(), (), ()], ([], [], []),
        (None, None, None), ("a", "b", "c"), (1, 2, 3), {"table": ()}, {1: (2,), (3,): [4]},
        ((((((),),),),),), (True, False), [[[]], {}], (TWO,), [TWO], (TWO, TWO), (TWO, TWO, TWO),
        list(TWO), [list(part) for part in TWO], {0: TWO}, TWO[0], TWO[1], TWO[:2], TWO + ((),),
    ]


class Case(unittest.TestCase):
    """Compares by type as well: True is not 1 here, and no list is a tuple."""

    def same(self, got, due, about=None):
        if repr(got) != repr(due):
            self.fail(f"{got!r} is not {due!r} (about {about!r})")

    def fails(self, due, call, *told, **named):
        """The call raises an error of due's class, with due's fields."""
        try:
            got = call(*told, **named)
        except ValueError as wrong:
            self.assertIs(type(wrong), type(due), (told, named))
            self.same(vars(wrong), vars(due), (told, named))
        else:
            self.fail(f"{got!r} came, {due!r} was due (for {told!r} {named!r})")

    def keeps(self, call, *told):
        """The call changes nothing that is handed in, and tells the same again."""
        before = copy.deepcopy(told)
        first = call(*told)
        self.same(told, before)
        self.same(call(*told), first)
        self.same(call(*copy.deepcopy(told)), first)


def outcome(call, *told):
    """What the call returns or raises, in a form that can be compared."""
    try:
        return ("returned", call(*told))
    except ValueError as wrong:
        return ("raised", type(wrong).__name__, vars(wrong))


def random_manners(dice, many, words=WORDS):
    """Manners of so many hands, with any of the words, any orders, some hands early."""
    table = [["-"] * many for _ in range(many)]
    for i, j in itertools.combinations(range(many), 2):
        table[i][j] = dice.choice(words)
        table[j][i] = dice.choice(words)
        if "even" in (table[i][j], table[j][i]):
            table[i][j] = table[j][i] = "even"
    orders = []
    for hand in range(many):
        order = [other for other in range(many) if other != hand]
        dice.shuffle(order)
        orders.append(tuple(order))
    early = tuple(hand for hand in range(many) if dice.random() < 0.3)
    return (tuple(map(tuple, table)), tuple(orders), early)


def all_of_two():
    """All manners of two hands."""
    found = []
    for one, other in itertools.product(WORDS, WORDS):
        if (one == "even") == (other == "even"):
            for early in ((), (0,), (1,), (0, 1)):
                found.append(((("-", one), (other, "-")), ((1,), (0,)), early))
    return found


def many_manners(each=12, seed=1):
    """All manners of two hands, and so many of each greater number of hands."""
    dice = random.Random(seed)
    found = all_of_two()
    for many in (3, 4, 5, 6):
        for _ in range(each):
            found.append(random_manners(dice, many))
    return found


def edited(text, signs):
    """All texts that come of text by one sign put in, taken out or exchanged."""
    found = []
    for place in range(len(text) + 1):
        for sign in signs:
            found.append(text[:place] + sign + text[place:])
            found.append(text[:place] + sign + text[place + 1:])
        found.append(text[:place] + text[place + 1:])
    return [other for other in found if other != text]
