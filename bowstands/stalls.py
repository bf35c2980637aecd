"""Stalls: nobody goes in any more, though nobody is idle for ever that can move."""

from bowstands.aparts import is_safe
from bowstands.errors import BadRun, Unfit
from bowstands.loops import ever_barred, is_loop, return_error
from bowstands.manners import evens
from bowstands.rings import bow_ring, wait_rings
from bowstands.runs import behind, trace
from bowstands.standings import REST, WISH, inside, start
from bowstands.steps import stepped
from bowstands.times import order_of_safe
from bowstands.walks import spot_of, walked


def stuck_ring(manners):
    """Return the first ring by which there is a stall, behind its word, None if there is none."""
    if not is_safe(manners):
        raise Unfit()
    bows = bow_ring(manners)
    if bows is not None:
        return ("bow", bows)
    for ring in wait_rings(manners):
        if order_of_safe(manners, ring) is not None:
            return ("wait", ring)
    return None


def is_never_stuck(manners):
    """Return whether there is no ring by which there is a stall."""
    return stuck_ring(manners) is None


def stall(manners):
    """Return any stall, None if there is none."""
    found = stuck_ring(manners)
    if found is None:
        return None
    word, ring = found
    if word == "wait":
        return (_waiting_run(manners, ring), ())
    if len(ring) == 2:
        return _bowing_pair(manners, ring)
    return _bowing_ring(manners, ring)


def _waiting_run(manners, ring):
    """Return the run behind which each hand of the timely ring waits for the next one."""
    run = []
    now = start(manners)
    for event in order_of_safe(manners, ring):
        hand = event[1]
        now = stepped(manners, now, hand)
        run.append(hand)
        # What concerns hands that rest comes at once: so no flag is half for longer than the order tells.
        while not _is_at_ring(manners, ring, now, hand):
            now = stepped(manners, now, hand)
            run.append(hand)
    return tuple(run)


def _is_at_ring(manners, ring, standing, hand):
    """Return whether hand is going to hand over to a hand of ring, or to look at one."""
    word, spot = standing[0][hand]
    if word == "hand":
        return evens(manners, hand)[spot] in ring
    return word == "look" and manners[1][hand][spot] in ring


def _bowing_pair(manners, ring):
    """Return the stall by which two bow to one another at the same time, again and again."""
    looks = [(hand, _spot_at_next(manners, ring, place)) for place, hand in enumerate(ring)]
    at_look = [(hand, ("look", spot)) for hand, spot in looks]
    run, here = walked(manners, start(manners), at_look)
    stops = [(hand, ("yield", spot)) for hand, spot in looks]
    stops.extend([(hand, ("low", spot)) for hand, spot in looks])
    stops.extend([(hand, WISH) for hand, _ in looks])
    again, _ = walked(manners, here, stops + at_look)
    return (run, again)


def _spot_at_next(manners, ring, place):
    return spot_of(manners, ring[place], ring[(place + 1) % len(ring)])


def _bowing_ring(manners, ring):
    """Return the stall by which each hand of a ring of three or more bows to the next one, in turns."""
    first = (ring[0], ("look", _spot_at_next(manners, ring, 0)))
    lap = []
    for place in range(len(ring)):
        lap.extend(_turn(manners, ring, place))
    # Only behind a whole lap all tokens are as they will be behind each further one.
    run, here = walked(manners, start(manners), [first] + lap)
    again, _ = walked(manners, here, lap)
    return (run, again)


def _turn(manners, ring, place):
    """Return the stops by which the hand at this place bows at its look, and the next one comes to its own look."""
    following = (place + 1) % len(ring)
    hand, other = ring[place], ring[following]
    raised = ("hand", 0) if evens(manners, other) else ("look", 0)
    return (
        (other, raised),
        (hand, ("low", _spot_at_next(manners, ring, place))),
        (ring[place - 1], WISH),
        (other, ("look", _spot_at_next(manners, ring, following))),
    )


def stall_error(manners, value):
    """Return None if value is a stall by manners, otherwise the first thing that is wrong with it."""
    if not is_loop(value, len(manners[0])):
        return "form"
    run, again = value
    try:
        here = behind(manners, start(manners), run)
    except BadRun as wrong:
        return ("run", wrong.place)
    return round_error(manners, here, again)


def round_error(manners, here, again):
    """Return None if nobody goes in any more by the round again from here, otherwise the first thing that is wrong."""
    if inside(here):
        return "within"
    if all([place == REST for place in here[0]]):
        return "rest"
    try:
        told = trace(manners, here, again)
    except BadRun as wrong:
        return ("round", wrong.place)
    for place, (step, _) in enumerate(told):
        if step in ("begin", "enter", "leave"):
            return ("word", place)
    standings = [here] + [now for _, now in told]
    return return_error(standings, again, ever_barred(manners, standings))
