"""The bounds of the package."""

# Hands are told by one figure each in texts, and rules by hands grow fast with them.
MAX_HANDS = 6

MAX_MOVES = 900

# A slow run has about two steps where a run has one with a flag.
MAX_SLOW = 1500

MAX_COME = 4000

MAX_EDITS = 60
