"""Slow runs: pairs of a hand and the word of its step, one behind another, while flags flicker."""

from bowstands.errors import BadRun, Unfit
from bowstands.flickers import is_changing, made, next_words
from bowstands.standings import inside, start


def slow_trace(manners, standing, run):
    """Return the slow standings from standing on, one behind each pair of run; raise BadRun if there is none."""
    told = [standing]
    for place, (hand, word) in enumerate(run):
        try:
            told.append(made(manners, told[-1], hand, word))
        except Unfit:
            raise BadRun(place)
    return told


def slow_behind(manners, standing, run):
    """Return the slow standing behind the run that begins at standing."""
    return slow_trace(manners, standing, run)[-1]


def slow_entries(manners, standing, run):
    """Return the hands that went in, in order."""
    slow_trace(manners, standing, run)
    return tuple(hand for hand, word in run if word == "enter")


def slow_meeting(manners, standing, run):
    """Return the least number of steps behind which two or more are within, None if there is none."""
    for number, now in enumerate(slow_trace(manners, standing, run)):
        if len(inside(now)) > 1:
            return number
    return None


def slow_passed(manners, run, hand):
    """Return for each going in of hand how many others went in behind its last raising ahead of that."""
    slow_trace(manners, start(manners), run)
    told = []
    others = 0
    for mover, word in run:
        if mover == hand and word == "raised":
            others = 0
        elif mover == hand and word == "enter":
            told.append(others)
        elif word == "enter":
            others += 1
    return tuple(told)


def slowed(manners, run):
    """Return the slow run by which the hands make their steps as in run, each change of a flag at once."""
    return slowed_from(manners, start(manners), run)


def slowed_from(manners, standing, run):
    """Return what slowed does, if the run begins at standing, where no flag is changing."""
    told = []
    now = standing
    for place, hand in enumerate(run):
        word = next_words(manners, now, hand)[0]
        if word == "wait":
            raise BadRun(place)
        now = made(manners, now, hand, word)
        told.append((hand, word))
        if is_changing(now, hand):
            word = next_words(manners, now, hand)[0]
            now = made(manners, now, hand, word)
            told.append((hand, word))
    return tuple(told)
