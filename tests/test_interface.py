"""The section "The interface": every name stands in its module, defined there, and is called in the tests."""

import ast
import importlib
import pathlib
import unittest

from bowstands import errors
from tests.test_calls import CALLS, CLASSES

FOLDER = pathlib.Path(__file__).parent.parent / "bowstands"

ROWS = """
bounds: MAX_HANDS, MAX_MOVES, MAX_SLOW, MAX_COME, MAX_EDITS
errors: BowError, Unfit, BadManners, BadRun, BadText, BadLog, Refused, TooMany, NothingToUndo
manners: manners_error, evens, over_pairs, renamed
kinds: known
mannertexts: manners_text, read_manners
standings: start, standing_error, flag, holder
steps: next_step, stepped, movers
standingtexts: standing_text, read_standing
runs: behind, words, entries, first_meeting
runtexts: run_text, read_run
aparts: fault, faults, is_safe
meetings: meeting_run
rings: bow_ring, wait_rings
times: events, order_of, is_timely, order_error
stalls: stuck_ring, is_never_stuck, stall, stall_error
homes: tries_most, home_bound, home_run
orderings: hurdle, told_orders, free_orders
changes: fewest_changes, changed
keepouts: can_be_kept_out, keeping, keeping_error, most_passed
passings: passed
alls: standings_of, nearest
looks: meets_by_all, stuck_by_all, kept_by_all, longest_by_all, passed_by_all
rooms: Room
roomlogs: log_text, read_log, room_behind
shells: Shell
flickers: views, slow_error, next_words, made
slowruns: slow_behind, slow_entries, slow_meeting, slow_passed, slowed
slowstalls: slow_stall, slow_stall_error, slow_keeping, slow_keeping_error
slowhomes: slow_bound, slow_home
drops: dropped, drop_behind, drop_meeting
dropstalls: drop_stall_error, drop_keeping, drop_keeping_error
"""


def rows():
    """The pairs of a module and its list of names."""
    lines = [line.split(": ") for line in ROWS.strip().splitlines()]
    return [(module, names.split(", ")) for module, names in lines]


def defined(module):
    """The names that the file of the module defines or assigns itself."""
    names = []
    for node in ast.parse((FOLDER / f"{module}.py").read_text()).body:
        if isinstance(node, (ast.FunctionDef, ast.ClassDef)):
            names.append(node.name)
        elif isinstance(node, ast.Assign):
            names += [target.id for target in node.targets]
    return names


class Interface(unittest.TestCase):
    def test_each_name(self):
        for module, names in rows():
            for name in names:
                self.assertTrue(hasattr(importlib.import_module(f"bowstands.{module}"), name), (module, name))
                self.assertIn(name, defined(module))

    def test_each_is_called(self):
        """tests/test_calls.py calls each function and class by the names of its arguments."""
        called = {(module, name) for module, name, _, _ in CALLS} | {row[:2] for row in CLASSES}
        due = {(module, name) for module, names in rows() for name in names if module not in ("bounds", "errors")}
        self.assertEqual(called | {("roomlogs", "room_behind")}, due)

    def test_none_is_another_one(self):
        names = dict(rows())["errors"][1:]
        found = [getattr(errors, name) for name in names]
        for one in found:
            self.assertEqual(one.__bases__, (errors.BowError,))
            for other in found:
                self.assertEqual(issubclass(one, other), one is other)
        self.assertEqual(errors.BowError.__bases__, (ValueError,))
        self.assertEqual(set(defined("errors")), {"BowError", *names})


if __name__ == "__main__":
    unittest.main()
