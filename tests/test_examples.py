"""Every example of the document, as it stands there: tests/examples/*.txt."""

import pathlib
import unittest

import bowstands.errors as errors

FOLDER = pathlib.Path(__file__).parent / "examples"


def told_examples(text):
    """The pairs (call, what is told below it) of a text; "" where nothing is told."""
    found = []
    for line in text.splitlines():
        if line.startswith(">>> "):
            found.append([line[4:], ""])
        else:
            assert found[-1][1] == "", line
            found[-1][1] = line
    return found


def shown(call, names):
    """What the call shows: its value, or the error that it raises."""
    try:
        return repr(eval(call, names))
    except errors.BowError as wrong:
        fields = ", ".join(repr(field) for field in vars(wrong).values())
        return f"raises {type(wrong).__name__}({fields})"


class Examples(unittest.TestCase):
    def test_all(self):
        # Names that were set once stay set, from one section to the next one.
        names = {}
        paths = sorted(FOLDER.glob("*.txt"))
        self.assertTrue(paths)
        for path in paths:
            for call, due in told_examples(path.read_text()):
                if due == "":
                    exec(call, names)
                else:
                    self.assertEqual(shown(call, names), due, (path.name, call))


if __name__ == "__main__":
    unittest.main()
