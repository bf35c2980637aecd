"""[A4] to [A6], [A9]: bowstands.manners."""

import itertools
import random
import unittest

from bowstands.manners import evens, manners_error, over_pairs, renamed
from tests.support import MIXED, TWO, WORDS, Case, many_manners, odd_values


def with_item(row, place, item):
    return row[:place] + (item,) + row[place + 1:]


def with_word(manners, i, j, word):
    table = manners[0]
    return (with_item(table, i, with_item(table[i], j, word)), manners[1], manners[2])


def with_order(manners, hand, order):
    return (manners[0], with_item(manners[1], hand, order), manners[2])


FOUR = (
    (
        ("-", "stand", "even", "slip"),
        ("bow", "-", "pass", "even"),
        ("even", "slip", "-", "even"),
        ("stand", "even", "even", "-"),
    ),
    ((3, 1, 2), (0, 2, 3), (3, 0, 1), (1, 2, 0)),
    (1, 3),
)


class MannersError(Case):
    def test_manners(self):
        for manners in many_manners() + [TWO, MIXED, FOUR]:
            self.same(manners_error(manners), None, manners)

    def test_odd_values(self):
        triples = {repr(((), (), ())): "hands", repr((TWO, TWO, TWO)): ("row", 0)}
        for value in odd_values():
            self.same(manners_error(value), triples.get(repr(value), "form"), value)

    def test_form(self):
        for part in (None, [], {}, "", "abc", 3, True):
            for place in (0, 1, 2):
                self.same(manners_error(with_item(FOUR, place, part)), "form")
        for value in (FOUR[:2], FOUR + ((),), FOUR[:1], list(FOUR), dict(enumerate(FOUR))):
            self.same(manners_error(value), "form")

    def test_hands(self):
        self.same(manners_error(((), (), ())), "hands")
        self.same(manners_error(((("-",),), ((),), ())), "hands")
        for many in range(1, 9):
            table = tuple(tuple("-" if i == j else "bow" for j in range(many)) for i in range(many))
            orders = tuple(tuple(j for j in range(many) if j != i) for i in range(many))
            self.same(manners_error((table, orders, ())), None if 2 <= many <= 6 else "hands")

    def test_rows(self):
        bad_words = ("wait", "", "-", "Stand", " even", "even ", None, 1, True, [], ["even"], ("even",), {})
        for i, j in itertools.permutations(range(4), 2):
            for word in bad_words:
                self.same(manners_error(with_word(FOUR, i, j, word)), ("row", i))
        for i in range(4):
            for word in WORDS + ("", "--", None, 0, ("-",), ["-"]):
                self.same(manners_error(with_word(FOUR, i, i, word)), ("row", i))
            for row in (FOUR[0][i][:3], FOUR[0][i] + ("even",), list(FOUR[0][i]), (), None, "-abc", {}):
                self.same(manners_error((with_item(FOUR[0], i, row), FOUR[1], FOUR[2])), ("row", i))

    def test_first_row(self):
        self.same(manners_error(with_word(with_word(FOUR, 3, 0, "x"), 1, 0, "x")), ("row", 1))
        self.same(manners_error(with_word(with_word(FOUR, 2, 3, "x"), 2, 2, "x")), ("row", 2))

    def test_even(self):
        self.same(manners_error(with_word(FOUR, 0, 1, "even")), ("even", 0, 1))
        self.same(manners_error(with_word(FOUR, 1, 0, "even")), ("even", 0, 1))
        self.same(manners_error(with_word(FOUR, 2, 3, "bow")), ("even", 2, 3))
        self.same(manners_error(with_word(FOUR, 3, 2, "bow")), ("even", 2, 3))
        self.same(manners_error(with_word(FOUR, 3, 1, "slip")), ("even", 1, 3))
        # i in order, then j: (0, 3) stands ahead of (1, 2), and (0, 2) ahead of (0, 3).
        far = with_word(with_word(FOUR, 2, 1, "even"), 3, 0, "even")
        self.same(manners_error(far), ("even", 0, 3))
        self.same(manners_error(with_word(far, 2, 0, "pass")), ("even", 0, 2))
        for one, other in itertools.product(WORDS, WORDS):
            value = ((("-", one), (other, "-")), ((1,), (0,)), ())
            due = None if (one == "even") == (other == "even") else ("even", 0, 1)
            self.same(manners_error(value), due)

    def test_orders(self):
        for orders in ((), FOUR[1][:3], FOUR[1] + ((),), FOUR[1] + FOUR[1], (None,)):
            self.same(manners_error((FOUR[0], orders, FOUR[2])), "orders")

    def test_order(self):
        for hand in range(4):
            good = FOUR[1][hand]
            bad = [good[:2], good + good[:1], good[:2] + good[:1], list(good), (), None, 5, "123", {}]
            bad += [good[:2] + (item,) for item in (hand, -1, 4, 10 ** 399, None, "1", (), [], str(good[2]))]
            for order in bad:
                self.same(manners_error(with_order(FOUR, hand, order)), ("order", hand), order)
            for order in itertools.permutations(good):
                self.same(manners_error(with_order(FOUR, hand, order)), None)
        self.same(manners_error(with_order(with_order(FOUR, 3, ()), 1, ())), ("order", 1))

    def test_bools_are_no_hands(self):
        self.same(manners_error((TWO[0], ((True,), (0,)), ())), ("order", 0))
        self.same(manners_error((TWO[0], ((1,), (False,)), ())), ("order", 1))
        self.same(manners_error((TWO[0], TWO[1], (False,))), "early")
        self.same(manners_error((TWO[0], TWO[1], (True,))), "early")
        self.same(manners_error((TWO[0], TWO[1], (0, True))), "early")

    def test_early(self):
        for many in range(5):
            for early in itertools.permutations(range(4), many):
                due = None if list(early) == sorted(early) else "early"
                self.same(manners_error((FOUR[0], FOUR[1], early)), due)
        for early in ((4,), (-1,), (-1, 0), (0, 0), (1, 1), (0, 4), (None,), ("0",), ((0,),), ([],), (0, 1, 2, 3, 4)):
            self.same(manners_error((FOUR[0], FOUR[1], early)), "early", early)

    def test_first_told_is_due(self):
        """Of two faults, made one behind the other, the one that is told first."""
        few = (FOUR[0][:1], FOUR[1], FOUR[2])
        steps = [
            ("hands", lambda value: (few[0],) + value[1:]),
            (("row", 0), lambda value: with_word(value, 0, 1, "x")),
            (("row", 2), lambda value: with_word(value, 2, 1, "x")),
            (("even", 0, 1), lambda value: with_word(value, 0, 1, "even")),
            (("even", 2, 3), lambda value: with_word(value, 3, 2, "stand")),
            ("orders", lambda value: (value[0], value[1] + ((),), value[2])),
            (("order", 0), lambda value: with_order(value, 0, ())),
            (("order", 3), lambda value: with_order(value, 3, (0, 1, 1))),
            ("early", lambda value: (value[0], value[1], (2, 1))),
        ]
        for (first, one), (_, other) in itertools.combinations(steps, 2):
            self.same(manners_error(one(other(FOUR))), first)
            self.same(manners_error(list(one(other(FOUR)))), "form")

    def test_keeps(self):
        for value in odd_values() + [FOUR, TWO, MIXED, with_order(FOUR, 2, [3, 0, 1])]:
            self.keeps(manners_error, value)


class Evens(Case):
    def test_in_its_order(self):
        self.same([evens(FOUR, hand) for hand in range(4)], [(2,), (3,), (3, 0), (1, 2)])
        level = tuple(tuple("-" if i == j else "even" for j in range(6)) for i in range(6))
        orders = tuple(tuple(j for j in range(5, -1, -1) if j != i) for i in range(6))
        for hand in range(6):
            self.same(evens((level, orders, (0, 5)), hand), orders[hand])

    def test_from_both_sides(self):
        for manners in many_manners():
            many = len(manners[0])
            for i, j in itertools.permutations(range(many), 2):
                self.assertEqual(i in evens(manners, j), manners[0][i][j] == "even")
                self.assertEqual(i in evens(manners, j), j in evens(manners, i))
            for hand in range(many):
                told = evens(manners, hand)
                self.assertIs(type(told), tuple)
                places = [manners[1][hand].index(other) for other in told]
                self.assertEqual(places, sorted(places))
                self.keeps(evens, manners, hand)


class OverPairs(Case):
    def test_two_words(self):
        self.same(over_pairs(FOUR), ((0, 1),))
        for one, other in itertools.product(WORDS, WORDS):
            manners = ((("-", one), (other, "-")), ((1,), (0,)), ())
            due = {("stand", "bow"): ((0, 1),), ("bow", "stand"): ((1, 0),)}.get((one, other), ())
            self.same(over_pairs(manners), due)

    def test_ascending(self):
        dice = random.Random(3)
        for many in (3, 4, 5, 6):
            for _ in range(20):
                order = list(range(many))
                dice.shuffle(order)
                rank = [order.index(hand) for hand in range(many)]
                table = tuple(
                    tuple("-" if i == j else "stand" if rank[i] < rank[j] else "bow" for j in range(many))
                    for i in range(many)
                )
                orders = tuple(tuple(j for j in range(many) if j != i) for i in range(many))
                due = sorted((i, j) for i, j in itertools.permutations(range(many), 2) if rank[i] < rank[j])
                self.same(over_pairs((table, orders, ())), tuple(due))

    def test_never_both_ways(self):
        for manners in many_manners():
            pairs = over_pairs(manners)
            self.same(pairs, tuple(sorted(pairs)))
            for i, j in pairs:
                self.assertNotIn((j, i), pairs)
                self.assertNotIn(i, evens(manners, j))
            self.keeps(over_pairs, manners)


class Renamed(Case):
    def test_each_part(self):
        row = (2, 0, 3, 1)
        due = (
            (
                ("-", "even", "bow", "pass"),
                ("even", "-", "stand", "even"),
                ("stand", "slip", "-", "even"),
                ("slip", "even", "even", "-"),
            ),
            ((2, 3, 1), (0, 3, 2), (1, 0, 3), (1, 2, 0)),
            (0, 1),
        )
        self.same(renamed(FOUR, row), due)

    def test_by_what_it_means(self):
        dice = random.Random(5)
        for manners in many_manners():
            many = len(manners[0])
            row = list(range(many))
            dice.shuffle(row)
            row = tuple(row)
            new = renamed(manners, row)
            self.same(manners_error(new), None)
            for i, j in itertools.product(range(many), repeat=2):
                self.assertEqual(new[0][row[i]][row[j]], manners[0][i][j])
            for i in range(many):
                self.same(new[1][row[i]], tuple(row[j] for j in manners[1][i]))
                self.assertEqual(row[i] in new[2], i in manners[2])
                self.same(evens(new, row[i]), tuple(row[j] for j in evens(manners, i)))
            self.same(over_pairs(new), tuple(sorted((row[i], row[j]) for i, j in over_pairs(manners))))
            self.keeps(renamed, manners, row)

    def test_there_and_back(self):
        for manners in many_manners(each=3):
            many = len(manners[0])
            self.same(renamed(manners, tuple(range(many))), manners)
            for row in itertools.islice(itertools.permutations(range(many)), 0, 720, 7):
                back = tuple(row.index(hand) for hand in range(many))
                self.same(renamed(renamed(manners, row), back), manners)


if __name__ == "__main__":
    unittest.main()
