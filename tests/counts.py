"""Manners by which just 4000 or just 4001 standings come, of start or of another standing without "begin"."""

# Of start: just 4000 come.
JUST = (
    (
        ("-", "stand", "bow", "stand"), ("stand", "-", "bow", "stand"), ("bow", "stand", "-", "bow"),
        ("bow", "bow", "stand", "-"),
    ),
    ((3, 1, 2), (3, 2, 0), (3, 1, 0), (2, 0, 1)),
    (2,),
)

# Likewise, but 0 slips for somebody.
JUST_SLIPS = (
    (
        ("-", "stand", "stand", "slip"), ("stand", "-", "pass", "stand"), ("slip", "pass", "-", "bow"),
        ("bow", "stand", "pass", "-"),
    ),
    ((2, 1, 3), (0, 2, 3), (0, 3, 1), (0, 2, 1)),
    (0, 1, 2),
)

# Of start: 4001 come.
BEYOND = (
    (
        ("-", "bow", "stand", "bow"), ("bow", "-", "stand", "bow"), ("stand", "bow", "-", "stand"),
        ("stand", "bow", "stand", "-"),
    ),
    ((3, 2, 1), (2, 3, 0), (0, 1, 3), (1, 0, 2)),
    (),
)

# Pairs of manners and a standing of which just 4000, or 4001, come if nobody begins.
JUST_HOME = (
    (
        (
            ("-", "bow", "even", "even", "even"), ("pass", "-", "even", "slip", "pass"),
            ("even", "even", "-", "stand", "stand"), ("even", "stand", "stand", "-", "pass"),
            ("even", "slip", "pass", "stand", "-"),
        ),
        ((1, 2, 4, 3), (0, 3, 4, 2), (3, 0, 4, 1), (1, 4, 0, 2), (1, 3, 2, 0)),
        (1, 2, 3),
    ),
    (
        (("hand", 1), ("wish", 0), ("look", 0), ("in", 0), ("low", 0)),
        ((0, 2, 0), (0, 3, 3), (0, 4, 0), (1, 2, 1)),
    ),
)

BEYOND_HOME = (
    (
        (
            ("-", "bow", "even", "stand", "even", "bow"), ("bow", "-", "bow", "even", "bow", "stand"),
            ("even", "stand", "-", "even", "even", "bow"), ("bow", "even", "even", "-", "even", "even"),
            ("even", "bow", "even", "even", "-", "stand"), ("bow", "stand", "bow", "even", "stand", "-"),
        ),
        ((1, 5, 2, 4, 3), (0, 5, 3, 4, 2), (4, 0, 3, 1, 5), (2, 1, 4, 0, 5), (0, 2, 1, 5, 3), (2, 0, 3, 1, 4)),
        (1, 2, 3),
    ),
    (
        (("look", 4), ("wish", 0), ("hand", 1), ("in", 0), ("in", 0), ("look", 0)),
        ((0, 2, 2), (0, 4, 4), (1, 3, 3), (2, 3, 3), (2, 4, 4), (3, 4, 3), (3, 5, 5)),
    ),
)
