"""[J2], [J3], [J7]: bowstands.rooms."""

import copy
import random
import unittest

from bowstands.bounds import MAX_EDITS
from bowstands.errors import BadManners, NothingToUndo, Refused, TooMany
from bowstands.kinds import known
from bowstands.manners import manners_error
from bowstands.roomlogs import room_behind
from bowstands.rooms import Room
from bowstands.runs import behind, words
from bowstands.stalls import is_never_stuck
from bowstands.standings import flag, start
from bowstands.steps import movers
from tests.roommodel import Told, shown
from tests.support import MIXED, TWO, Case, all_of_two, many_manners, odd_values, random_manners
from tests.test_stalls import ranked_but

LATE = (MIXED[0], ((2, 1), (0, 2), (1, 0)), ())
BLIND = ((("-", "pass"), ("stand", "-")), ((1,), (0,)), ())
SLIPS = ((("-", "slip"), ("stand", "-")), ((1,), (0,)), ())
MEEK = known("meek", 2)
PROUD = known("proud", 2)


def gone(room, hands):
    """Let these hands go, and return the room."""
    for hand in hands:
        room.go(hand)
    return room


def no_hands(many):
    return [value for value in odd_values() if type(value) is not int or not 0 <= value < many] + [many, -1]


class Rooms(Case):
    def is_as(self, room, told):
        self.same(shown(room), told.shown())

    def refuses(self, room, due, edit, *told):
        """The edit raises this error, and changes nothing."""
        before = shown(room)
        twin = room.twin()
        self.fails(due, edit, *told)
        self.same(shown(room), before)
        self.assertTrue(room == twin)

    def test_new(self):
        for manners in many_manners(each=6):
            room = Room(manners)
            self.is_as(room, Told(manners, ()))
            self.same(room.standing, start(manners))
            self.same((room.version, room.edits, room.entered(), room.inside(), room.waits()), (0, (), (), (), ()))

    def test_no_manners(self):
        broken = [
            TWO[:2], (TWO[0], TWO[1], (2,)), (TWO[0], TWO[1], (True,)), (TWO[0], ((1,), (1,)), ()),
            ((("-", "even"), ("bow", "-")), TWO[1], ()), ((("-", "wait"), ("bow", "-")), TWO[1], ()),
            (((("-",),)), ((),), ()), Room(TWO), (Room(TWO), TWO[1], ()),
            ((("-", Room(TWO)), ("bow", "-")), TWO[1], ()), (TWO[0], ((Room(TWO),), (0,)), ()),
        ]
        for value in odd_values() + broken:
            if value == TWO:
                continue
            error = manners_error(value)
            self.assertIsNotNone(error)
            self.fails(BadManners(error), Room, value)
            room = gone(Room(TWO), (0,) * 6)
            self.same(room.standing[0][0], ("wish", 0))
            self.refuses(room, Refused("busy"), room.rule, value)
            room.undo()
            self.refuses(room, BadManners(error), room.rule, value)

    def test_by_name(self):
        room = Room(manners=TWO)
        self.same([room.go(hand=1), room.undo(), room.rule(manners=MEEK)], [1, 0, 1])

    def test_gone_through(self):
        """Rooms by all kinds of edits, each time as it is due from the beginning."""
        dice = random.Random(811)
        for manners in many_manners(each=6, seed=811)[::2]:
            room, edits = Room(manners), []
            for _ in range(dice.randrange(20, 75)):
                edits = self.turn(dice, room, edits)
                self.is_as(room, Told(manners, edits))
            self.assertTrue(room_behind(room.first, room.edits) == room)
            while edits:
                edits.pop()
                self.same(room.undo(), len(edits))
                self.is_as(room, Told(manners, edits))
            self.refuses(room, NothingToUndo(), room.undo)

    def turn(self, dice, room, edits):
        """Do any one thing to the room; return the edits that are due to stand then."""
        told = Told(room.first, edits)
        many = len(told.manners[0])
        other = random_manners(dice, many)
        if len(edits) == MAX_EDITS:
            self.refuses(room, TooMany(MAX_EDITS), room.go, dice.randrange(many))
            self.refuses(room, TooMany(MAX_EDITS), room.rule, other)
        elif dice.random() < 0.3 and not told.is_at_rest():
            self.refuses(room, Refused("busy"), room.rule, other)
        elif told.is_at_rest() and dice.random() < 0.5:
            self.same(room.rule(other), len(edits) + 1)
            return edits + [("rule", other)]
        if edits and dice.random() < 0.15:
            self.same(room.undo(), len(edits) - 1)
            return edits[:-1]
        barred = [hand for hand in range(many) if hand not in told.able()]
        if barred and len(edits) < MAX_EDITS:
            self.refuses(room, Refused("barred"), room.go, dice.choice(barred))
        if not told.able() or len(edits) == MAX_EDITS:
            return edits
        # Who is nearest to the room goes often: so many go in and leave.
        hand = max(dice.sample(told.able(), min(2, len(told.able()))), key=lambda one: told.standing[0][one])
        hand = dice.choice((hand, told.able()[0]))
        self.same(room.go(hand), len(edits) + 1)
        return edits + [("go", hand)]

    def test_go_refused(self):
        for manners in (TWO, MIXED, known("ranked", 6)):
            room = Room(manners)
            for value in no_hands(len(manners[0])) + [room, MIXED]:
                self.refuses(room, Refused("hand"), room.go, value)
        room = gone(Room(PROUD), (0, 1, 0, 1))
        for hand in (0, 1):
            self.refuses(room, Refused("barred"), room.go, hand)
        self.refuses(room, Refused("hand"), room.go, 2)
        self.refuses(room, Refused("hand"), room.go, True)

    def test_rule_refused(self):
        room = Room(TWO)
        self.refuses(room, Refused("hands"), room.rule, MIXED)
        self.refuses(room, BadManners("form"), room.rule, MIXED[:2])
        room.go(1)
        for value in (MIXED, MIXED[:2], MEEK, None, TWO):
            self.refuses(room, Refused("busy"), room.rule, value)
        gone(room, (1,) * 4)
        self.same(room.rule(MEEK), 6)
        self.same(room.standing, start(MEEK))
        self.refuses(room, Refused("hands"), room.rule, known("meek", 3))

    def test_rule_begins_anew(self):
        """The tokens lie as at the beginning again, also by the same manners."""
        room = gone(Room(TWO), (0,) * 5)
        self.same(room.standing[1], ((0, 1, 1),))
        self.same([room.rule(TWO), room.standing, room.entered()], [6, start(TWO), (0,)])
        self.same([room.undo(), room.standing[1]], [5, ((0, 1, 1),)])

    def test_sixty_edits(self):
        room = gone(Room(TWO), (0,) * 60)
        self.same((room.version, room.entered()), (60, (0,) * 12))
        for value in (0, 1, 2, None, TWO, MIXED):
            self.refuses(room, TooMany(60), room.go, value)
            self.refuses(room, TooMany(60), room.rule, value)
        self.same([room.undo(), room.go(0)], [59, 60])
        jammed = gone(Room(PROUD), (0,) * 56 + (0, 0, 1, 1))
        self.same(jammed.waits(), ((0, 1), (1, 0)))
        self.refuses(jammed, TooMany(60), jammed.go, 0)
        jammed.undo()
        self.refuses(jammed, Refused("hand"), jammed.go, 2)
        self.same(jammed.go(1), 60)

    def test_undo(self):
        room = Room(TWO)
        self.refuses(room, NothingToUndo(), room.undo)
        gone(room, (1,) * 5)
        room.rule(MEEK)
        gone(room, (0, 0, 0, 0))
        room.rule(BLIND)
        self.same((room.version, room.entered(), room.first, room.manners), (11, (1, 0), TWO, BLIND))
        due = [Told(TWO, room.edits[:number]).shown() for number in range(11)]
        for number in range(10, -1, -1):
            self.same(room.undo(), number)
            self.same(shown(room), due[number])
        self.refuses(room, NothingToUndo(), room.undo)
        self.assertTrue(room == Room(TWO))

    def test_twin(self):
        room = gone(Room(TWO), (1,) * 5)
        room.rule(MEEK)
        gone(room, (0, 0, 1))
        before = shown(room)
        twin = room.twin()
        self.same(shown(twin), before)
        self.assertIsNot(twin, room)
        gone(twin, (1, 1))
        self.same(shown(room), before)
        ahead = shown(twin)
        for number in range(8, -1, -1):
            self.same(room.undo(), number)
        self.same(shown(twin), ahead)
        for number in range(10, -1, -1):
            self.same(twin.undo(), number)
        self.same(shown(twin), shown(Room(TWO)))
        self.fails(NothingToUndo(), twin.undo)
        further = room.twin().twin()
        self.same([further.go(0), room.version], [1, 0])

    def test_what_was_read_stays(self):
        room = gone(Room(MIXED), (0, 0, 0, 1))
        read = [room.edits, room.standing, room.manners, room.entered(), room.waits(), room.inside()]
        before = copy.deepcopy(read)
        gone(room, (1, 1, 0))
        room.undo()
        self.same(read, before)

    def test_waits(self):
        for manners, hands, due in (
            (TWO, (0, 1, 0, 1, 0, 1), ((1, 0),)),
            (TWO, (0, 0, 1, 1, 1), ((1, 0),)),
            (TWO, (1, 1, 0, 0, 0), ((0, 1),)),
            (MEEK, (0, 0, 1, 1, 1, 1), ((1, 0),)),
            (SLIPS, (0, 0, 1, 1, 0, 0), ((0, 1), (1, 0))[:1]),
            (BLIND, (0, 0, 1, 1), ((1, 0),)),
            (PROUD, (0, 0, 1, 1), ((0, 1), (1, 0))),
            (known("ranked", 3), (0, 0, 1, 1, 1, 1), ((1, 0),)),
            (LATE, (2, 2, 2, 1, 1, 1, 1, 0, 0, 0, 2, 0, 2), ((0, 1), (1, 2), (2, 0))),
            (TWO, (), ()),
        ):
            room = gone(Room(manners), hands)
            self.same(room.waits(), due)
            self.same(room.waits(), Told(manners, room.edits).waits())

    def test_meeting(self):
        room = gone(Room(BLIND), (1, 1, 1, 0, 0, 0))
        self.same((room.inside(), room.entered()), ((0, 1), (1, 0)))

    def test_what_holds(self):
        """[J7]: the standing is that of the run; who waits; how often each went in; somebody can move."""
        dice = random.Random(821)
        for _ in range(60):
            many = dice.choice((2, 3, 4))
            manners = dice.choice((ranked_but(dice, many, 2), random_manners(dice, many)))
            room = Room(manners)
            for _ in range(dice.randrange(60)):
                able = movers(manners, room.standing)
                if able:
                    room.go(dice.choice(able))
            run = tuple(hand for _, hand in room.edits)
            self.same(room.standing, behind(manners, start(manners), run))
            pairs = room.waits()
            able = movers(manners, room.standing)
            self.same([i for i, _ in pairs], [hand for hand in range(many) if hand not in able])
            for i, j in pairs:
                self.assertIn(manners[0][i][j], ("bow", "slip", "stand", "even"))
                self.assertNotEqual(flag(manners, room.standing, j), "down")
            steps = list(zip(run, words(manners, start(manners), run)))
            for hand in range(many):
                left = steps.count((hand, "leave")) + (hand in room.inside())
                self.assertEqual(room.entered().count(hand), left)
            if all(word in ("stand", "bow", "even", "-") for row in manners[0] for word in row) and not manners[2]:
                self.assertLessEqual(len(room.inside()), 1)
                is_busy = room.standing[0] != (("rest", 0),) * many
                if is_never_stuck(manners) and is_busy:
                    self.assertTrue(any(room.standing[0][hand] != ("rest", 0) for hand in able))


class Equal(Case):
    def check(self, one, other, due):
        self.same((one == other, other == one, one != other, other != one), (due, due, not due, not due))

    def test_rooms(self):
        self.check(Room(TWO), Room(TWO), True)
        self.check(Room(TWO), Room(MIXED), False)
        self.check(Room(TWO), Room((TWO[0], TWO[1], (0,))), False)
        # How it came there plays no part.
        self.check(gone(Room(MEEK), (0, 1)), gone(Room(MEEK), (1, 0)), True)
        self.check(gone(Room(MEEK), (0, 1)), gone(Room(MEEK), (0,)), False)
        one, other = Room(TWO), Room(MEEK)
        one.rule(PROUD)
        other.rule(PROUD)
        self.check(one, other, True)
        self.check(one, Room(PROUD), True)
        one.undo()
        self.check(one, other, False)

    def test_who_went_in(self):
        """Unlike rooms if others went in, or in another order, though all else is the same."""
        zero, one = (0,) * 4, (1,) * 4
        self.check(gone(Room(MEEK), zero + one), gone(Room(MEEK), one + zero), False)
        self.check(gone(Room(MEEK), zero + zero), gone(Room(MEEK), zero), False)
        self.check(gone(Room(MEEK), zero + one), gone(Room(MEEK), zero + one), True)
        self.check(gone(Room(MEEK), zero), Room(MEEK), False)

    def test_tokens(self):
        """All rest, the same hand went in, but the token is with another one."""
        one, other = gone(Room(TWO), (0,) * 5), gone(Room(TWO), (0,) * 5)
        self.check(one, other, True)
        other.rule(TWO)
        self.same((one.standing[0], one.entered()), (other.standing[0], other.entered()))
        self.check(one, other, False)

    def test_other_values(self):
        room = Room(TWO)
        for value in odd_values() + [TWO, room.standing, Room, object()]:
            self.check(room, value, False)
        self.check(room, room, True)
        self.assertFalse(room in odd_values())

    def test_many(self):
        for manners in all_of_two()[::4]:
            room = Room(manners)
            self.check(room, Room(copy.deepcopy(manners)), True)
            room.go(0)
            self.check(room, Room(manners), False)
            self.check(room, room.twin(), True)


if __name__ == "__main__":
    unittest.main()
