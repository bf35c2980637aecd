"""A room told another way: each time anew from the edits that stand, by the steps of tests/model.py."""

import itertools

from tests import model


def first_standing(manners):
    """All rest, each token with the lesser one of its two."""
    places = (model.REST,) * len(manners[0])
    return (places, tuple((i, j, i) for i, j in model.even_ones(manners)))


class Told:
    """What is due of a room with these edits."""

    def __init__(self, first, edits):
        self.first = first
        self.edits = tuple(edits)
        self.manners = first
        self.standing = first_standing(first)
        self.entered = ()
        for word, told in edits:
            if word == "rule":
                self.manners = told
                self.standing = first_standing(told)
                continue
            step, self.standing = model.step_of(self.manners, self.standing, told)
            self.entered += (told,) if step == "enter" else ()

    def hands(self):
        return range(len(self.manners[0]))

    def able(self):
        """The hands that are not barred."""
        return [hand for hand in self.hands() if model.step_of(self.manners, self.standing, hand)]

    def waits(self):
        pairs = []
        for hand in self.hands():
            if hand not in self.able():
                pairs.append((hand, self.manners[1][hand][self.standing[0][hand][1]]))
        return tuple(pairs)

    def inside(self):
        return tuple(hand for hand in self.hands() if self.standing[0][hand] == model.IN)

    def is_at_rest(self):
        return set(self.standing[0]) == {model.REST}

    def shown(self):
        """All that callers read."""
        return (
            self.first, self.manners, self.standing, self.edits, len(self.edits), self.inside(), self.entered,
            self.waits(),
        )


def shown(room):
    """All that callers read of a room, as Told shows it."""
    return (
        room.first, room.manners, room.standing, room.edits, room.version, room.inside(), room.entered(),
        room.waits(),
    )


def homeward(told):
    """The hands that go, one behind another, till all rest, as far as that can be without beginning."""
    hands = []
    edits = list(told.edits)
    for _ in itertools.repeat(None, 200):
        here = Told(told.first, edits)
        able = [hand for hand in here.able() if here.standing[0][hand] != model.REST]
        if not able:
            break
        hands.append(able[-1])
        edits.append(("go", able[-1]))
    return hands
