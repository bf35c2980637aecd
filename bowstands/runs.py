"""Runs: hands that make one step each, one behind another."""

from bowstands.errors import BadRun
from bowstands.standings import inside
from bowstands.steps import after, next_step


def trace(manners, standing, run):
    """Return the pairs (step, standing behind it) of the run, in order; raise BadRun where one is barred."""
    told = []
    now = standing
    for place, hand in enumerate(run):
        step = next_step(manners, now, hand)
        if step is None:
            raise BadRun(place)
        now = after(manners, now, hand, step)
        told.append((step, now))
    return told


def behind(manners, standing, run):
    """Return the standing behind the run that begins at standing."""
    told = trace(manners, standing, run)
    return told[-1][1] if told else standing


def words(manners, standing, run):
    """Return the words of the steps of the run."""
    return tuple(step for step, _ in trace(manners, standing, run))


def entries(manners, standing, run):
    """Return the hands that went in, in order."""
    told = trace(manners, standing, run)
    return tuple([hand for hand, (step, _) in zip(run, told) if step == "enter"])


def first_meeting(manners, standing, run):
    """Return the least number of steps behind which two or more are within, None if there is none."""
    told = trace(manners, standing, run)
    standings = [standing] + [now for _, now in told]
    for number, now in enumerate(standings):
        if len(inside(now)) > 1:
            return number
    return None
