"""Rooms: kept while hands make their steps, and while manners change."""

from bowstands.bounds import MAX_EDITS
from bowstands.errors import BadManners, NothingToUndo, Refused, TooMany
from bowstands.manners import manners_error
from bowstands.standings import REST, inside, start
from bowstands.steps import after, looked_at, next_step
from bowstands.values import is_hand


class Room:
    """A room with its manners, its standing, and the edits that led there."""

    def __init__(self, manners):
        wrong = manners_error(manners)
        if wrong is not None:
            raise BadManners(wrong)
        self.first = manners
        self.manners = manners
        self.standing = start(manners)
        self.edits = ()
        self.version = 0
        self._entered = ()
        # The manners, the standing and the hands that went in, ahead of each edit.
        self._past = ()

    def inside(self):
        """Return the ascending tuple of the hands that are within."""
        return inside(self.standing)

    def entered(self):
        """Return the hands that went in, in order."""
        return self._entered

    def waits(self):
        """Return the ascending pairs of a hand that is barred and the one for which it waits."""
        pairs = []
        for hand in range(len(self.manners[0])):
            if next_step(self.manners, self.standing, hand) is None:
                pairs.append((hand, looked_at(self.manners, self.standing, hand)))
        return tuple(pairs)

    def go(self, hand):
        """Let hand make its next step, and return the version behind that."""
        self._check_edits()
        if not is_hand(hand, len(self.manners[0])):
            raise Refused("hand")
        step = next_step(self.manners, self.standing, hand)
        if step is None:
            raise Refused("barred")
        entered = self._entered + (hand,) if step == "enter" else self._entered
        standing = after(self.manners, self.standing, hand, step)
        return self._edited(("go", hand), self.manners, standing, entered)

    def rule(self, manners):
        """Let these be the manners, from the beginning on, and return the version behind that."""
        self._check_edits()
        if not all([place == REST for place in self.standing[0]]):
            raise Refused("busy")
        wrong = manners_error(manners)
        if wrong is not None:
            raise BadManners(wrong)
        if len(manners[0]) != len(self.manners[0]):
            raise Refused("hands")
        return self._edited(("rule", manners), manners, start(manners), self._entered)

    def _check_edits(self):
        if self.version >= MAX_EDITS:
            raise TooMany(MAX_EDITS)

    def _edited(self, edit, manners, standing, entered):
        self._past = self._past + ((self.manners, self.standing, self._entered),)
        return self._set(manners, standing, entered, self.edits + (edit,))

    def _set(self, manners, standing, entered, edits):
        self.manners = manners
        self.standing = standing
        self.edits = edits
        self.version = len(edits)
        self._entered = entered
        return self.version

    def undo(self):
        """Take back the last edit that stands, and return the version then."""
        if not self.edits:
            raise NothingToUndo()
        manners, standing, entered = self._past[-1]
        self._past = self._past[:-1]
        return self._set(manners, standing, entered, self.edits[:-1])

    def twin(self):
        """Return a room like this one that goes on by itself."""
        other = Room(self.first)
        other._past = self._past
        other._set(self.manners, self.standing, self._entered, self.edits)
        return other

    def __eq__(self, other):
        if not isinstance(other, Room):
            return False
        if self.manners != other.manners or self.standing != other.standing:
            return False
        return self._entered == other._entered

    def __ne__(self, other):
        return not self == other
