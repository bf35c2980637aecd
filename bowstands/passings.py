"""How often others went in ahead of a hand."""

from bowstands.runs import words
from bowstands.standings import start


def passed(manners, run, hand):
    """Return for each going in of hand how many others went in behind its last raising ahead of that."""
    told = []
    others = 0
    for mover, step in zip(run, words(manners, start(manners), run)):
        if step == "raise" and mover == hand:
            others = 0
        elif step == "enter" and mover == hand:
            told.append(others)
        elif step == "enter":
            others += 1
    return tuple(told)
