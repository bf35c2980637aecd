"""[A3], the interface: where each function stands, and the names of its arguments."""

import importlib
import inspect
import unittest

from bowstands.kinds import known
from bowstands.roomlogs import room_behind
from bowstands.standings import start
from tests.support import MIXED, TWO, Case

RESTING = start(MIXED)

BLIND = ((("-", "pass"), ("stand", "-")), ((1,), (0,)), ())
LATE = (MIXED[0], ((2, 1), (0, 2), (1, 0)), ())
ABOUT = (0, 1, 2)
BEGUN = ((("wish", 0), ("hand", 0), ("look", 1)), RESTING[1])
EVEN = known("level", 4)[0]
TURNING = ((("rise", 0), ("look", 0), ("empty", 0)), RESTING[1])
SLOW = ((0, "raised"), (1, "yield"), (2, "left"))
BROKEN = ((0, "go"), (1, "drop"), (1, "go"))

# Module, function, the names of its arguments, some arguments.
CALLS = (
    ("manners", "manners_error", ("value",), (MIXED,)),
    ("manners", "evens", ("manners", "hand"), (MIXED, 2)),
    ("manners", "over_pairs", ("manners",), (MIXED,)),
    ("manners", "renamed", ("manners", "row"), (MIXED, (2, 0, 1))),
    ("kinds", "known", ("word", "many"), ("ranked", 3)),
    ("mannertexts", "manners_text", ("manners",), (MIXED,)),
    ("mannertexts", "read_manners", ("value",), ("1 even\n0 even",)),
    ("standings", "start", ("manners",), (MIXED,)),
    ("standings", "standing_error", ("manners", "value"), (MIXED, RESTING)),
    ("standings", "flag", ("manners", "standing", "hand"), (MIXED, RESTING, 1)),
    ("standings", "holder", ("standing", "one", "other"), (RESTING, 2, 1)),
    ("steps", "next_step", ("manners", "standing", "hand"), (MIXED, RESTING, 1)),
    ("steps", "stepped", ("manners", "standing", "hand"), (MIXED, RESTING, 1)),
    ("steps", "movers", ("manners", "standing"), (MIXED, RESTING)),
    ("standingtexts", "standing_text", ("manners", "standing"), (MIXED, RESTING)),
    ("standingtexts", "read_standing", ("manners", "value"), (MIXED, "in, rest, wish; 0 1")),
    ("runs", "behind", ("manners", "standing", "run"), (MIXED, RESTING, (0, 1))),
    ("runs", "words", ("manners", "standing", "run"), (MIXED, RESTING, (0, 1))),
    ("runs", "entries", ("manners", "standing", "run"), (MIXED, RESTING, (0, 0, 0, 0, 0))),
    ("runs", "first_meeting", ("manners", "standing", "run"), (MIXED, RESTING, (0, 1))),
    ("runtexts", "run_text", ("run",), ((0, 1),)),
    ("runtexts", "read_run", ("value",), ("01",)),
    ("aparts", "fault", ("manners", "one", "other"), (BLIND, 1, 0)),
    ("aparts", "faults", ("manners",), (BLIND,)),
    ("aparts", "is_safe", ("manners",), (MIXED,)),
    ("meetings", "meeting_run", ("manners", "one", "other"), (BLIND, 1, 0)),
    ("rings", "bow_ring", ("manners",), (MIXED,)),
    ("rings", "wait_rings", ("manners",), (MIXED,)),
    ("times", "events", ("manners", "ring"), (LATE, ABOUT)),
    ("times", "order_of", ("manners", "ring"), (LATE, ABOUT)),
    ("times", "is_timely", ("manners", "ring"), (LATE, ABOUT)),
    ("times", "order_error", ("manners", "ring", "value"), (LATE, ABOUT, (("raise", 2), ("hand", 2, 1)))),
    ("stalls", "stuck_ring", ("manners",), (LATE,)),
    ("stalls", "is_never_stuck", ("manners",), (LATE,)),
    ("stalls", "stall", ("manners",), (LATE,)),
    ("stalls", "stall_error", ("manners", "value"), (LATE, ((0,), ()))),
    ("homes", "tries_most", ("manners", "hand"), (MIXED, 1)),
    ("homes", "home_bound", ("manners",), (MIXED,)),
    ("homes", "home_run", ("manners", "standing", "picks"), (MIXED, BEGUN, (1, 0))),
    ("orderings", "hurdle", ("table",), (MIXED[0],)),
    ("orderings", "told_orders", ("table",), (MIXED[0],)),
    ("orderings", "free_orders", ("table",), (MIXED[0],)),
    ("changes", "fewest_changes", ("table",), (EVEN,)),
    ("changes", "changed", ("table",), (EVEN,)),
    ("keepouts", "can_be_kept_out", ("manners", "hand"), (MIXED, 1)),
    ("keepouts", "keeping", ("manners", "hand"), (MIXED, 1)),
    ("keepouts", "keeping_error", ("manners", "hand", "value"), (MIXED, 1, ((0,), ()))),
    ("keepouts", "most_passed", ("manners", "hand"), (MIXED, 2)),
    ("passings", "passed", ("manners", "run", "hand"), (MIXED, (0, 0, 0, 0, 0, 0), 0)),
    ("alls", "standings_of", ("manners",), (BLIND,)),
    ("alls", "nearest", ("manners", "standing"), (MIXED, BEGUN)),
    ("looks", "meets_by_all", ("manners", "one", "other"), (BLIND, 1, 0)),
    ("looks", "stuck_by_all", ("manners",), (LATE,)),
    ("looks", "kept_by_all", ("manners", "hand"), (MIXED, 1)),
    ("looks", "longest_by_all", ("manners", "standing"), (MIXED, BEGUN)),
    ("looks", "passed_by_all", ("manners", "hand"), (MIXED, 2)),
    ("roomlogs", "log_text", ("log",), ((("go", 1), ("rule", TWO)),)),
    ("roomlogs", "read_log", ("value",), ("go 1\nrule 1 bow; 0 bow\n",)),
    ("flickers", "views", ("manners", "standing", "hand"), (MIXED, TURNING, 0)),
    ("flickers", "slow_error", ("manners", "value"), (MIXED, TURNING)),
    ("flickers", "next_words", ("manners", "standing", "hand"), (MIXED, TURNING, 1)),
    ("flickers", "made", ("manners", "standing", "hand", "word"), (MIXED, TURNING, 1, "yield")),
    ("slowruns", "slow_behind", ("manners", "standing", "run"), (MIXED, TURNING, SLOW)),
    ("slowruns", "slow_entries", ("manners", "standing", "run"), (MIXED, TURNING, SLOW)),
    ("slowruns", "slow_meeting", ("manners", "standing", "run"), (MIXED, TURNING, SLOW)),
    ("slowruns", "slow_passed", ("manners", "run", "hand"), (MIXED, ((0, "begin"), (0, "raise")), 0)),
    ("slowruns", "slowed", ("manners", "run"), (MIXED, (0, 0, 0, 1))),
    ("slowstalls", "slow_stall", ("manners",), (LATE,)),
    ("slowstalls", "slow_stall_error", ("manners", "value"), (LATE, (((0, "begin"),), ()))),
    ("slowstalls", "slow_keeping", ("manners", "hand"), (MIXED, 1)),
    ("slowstalls", "slow_keeping_error", ("manners", "hand", "value"), (MIXED, 0, (((0, "begin"),), ()))),
    ("slowhomes", "slow_bound", ("manners",), (MIXED,)),
    ("slowhomes", "slow_home", ("manners", "standing", "row", "sights"), (MIXED, TURNING, (2, 0, 1), (1, 0))),
    ("drops", "dropped", ("manners", "standing", "hand"), (MIXED, BEGUN, 2)),
    ("drops", "drop_behind", ("manners", "standing", "run"), (MIXED, BEGUN, BROKEN)),
    ("drops", "drop_meeting", ("manners", "standing", "run"), (MIXED, BEGUN, BROKEN)),
    ("dropstalls", "drop_stall_error", ("manners", "value"), (LATE, (((0, "go"),), ()))),
    ("dropstalls", "drop_keeping", ("manners", "hand"), (LATE, 0)),
    ("dropstalls", "drop_keeping_error", ("manners", "hand", "value"), (LATE, 0, (((0, "go"),), ()))),
)

# Module, class, the names of its arguments, some arguments; its methods likewise.
CLASSES = (
    ("rooms", "Room", ("manners",), (MIXED,), (
        ("inside", (), ()), ("entered", (), ()), ("waits", (), ()), ("go", ("hand",), (1,)),
        ("rule", ("manners",), (LATE,)), ("undo", (), ()), ("twin", (), ()), ("__eq__", ("other",), (None,)),
        ("__ne__", ("other",), (None,)),
    )),
    ("shells", "Shell", (), (), (("say", ("line",), ("open",)),)),
)


class Calls(Case):
    def test_names(self):
        for file, name, names, told in CALLS:
            module = importlib.import_module(f"bowstands.{file}")
            call = getattr(module, name)
            self.assertTrue(inspect.isfunction(call))
            self.assertEqual(call.__module__, f"bowstands.{file}")
            self.assertEqual(tuple(inspect.signature(call).parameters), names)
            by_name = dict(zip(names, told))
            self.same(call(**by_name), call(*told))
            self.same(call(**dict(reversed(by_name.items()))), call(*told))
            self.keeps(call, *told)

    def test_arguments_are_needed(self):
        for file, name, names, told in CALLS:
            call = getattr(importlib.import_module(f"bowstands.{file}"), name)
            with self.assertRaises(TypeError):
                call(*told[:-1])
            with self.assertRaises(TypeError):
                call(*told, TWO)

    def test_room_behind(self):
        """What it returns is told by ==, not by repr."""
        edits = (("go", 1), ("go", 1))
        self.assertTrue(room_behind(value=edits, manners=TWO) == room_behind(TWO, edits))
        self.assertEqual(tuple(inspect.signature(room_behind).parameters), ("manners", "value"))
        self.assertEqual(room_behind.__module__, "bowstands.roomlogs")

    def test_classes(self):
        for file, name, names, told, methods in CLASSES:
            made = getattr(importlib.import_module(f"bowstands.{file}"), name)
            self.assertEqual(made.__module__, f"bowstands.{file}")
            self.assertEqual(tuple(inspect.signature(made).parameters), names)
            for method, its_names, its_told in methods:
                self.assertTrue(inspect.isfunction(made.__dict__[method]), (name, method))
                call = getattr(made(**dict(zip(names, told))), method)
                self.assertEqual(tuple(inspect.signature(call).parameters), its_names)
                if method == "undo":
                    continue
                due = getattr(made(*told), method)(*its_told)
                got = call(**dict(zip(its_names, its_told)))
                self.assertTrue(got == due, (name, method))


if __name__ == "__main__":
    unittest.main()
