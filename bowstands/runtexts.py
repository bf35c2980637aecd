"""The texts of runs: a figure for each hand."""

from bowstands.bounds import MAX_MOVES
from bowstands.errors import BadText
from bowstands.values import read_figure


def run_text(run):
    """Return the text of run."""
    return "".join([str(hand) for hand in run])


def read_run(value):
    """Return the run of which value is the text; raise BadText with the place of the first wrong sign."""
    if not isinstance(value, str):
        raise BadText(0)
    run = []
    for place, sign in enumerate(value):
        hand = read_figure(sign)
        if hand is None or place >= MAX_MOVES:
            raise BadText(place)
        run.append(hand)
    return tuple(run)
