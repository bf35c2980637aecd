"""Runs by which two hands that have a fault meet."""

from bowstands.aparts import fault
from bowstands.standings import IN, REST, WISH, start
from bowstands.walks import spot_of, walked


def meeting_run(manners, one, other):
    """Return any run behind which both hands are within, None if they have no fault."""
    found = fault(manners, one, other)
    if found is None:
        return None
    first = found[1]
    second = other if first == one else one
    stops = _stops(manners, found, second) + ((first, IN),)
    return walked(manners, start(manners), stops)[0]


def _stops(manners, found, second):
    """Return the stops behind which second is within, and the hand that has the fault can go in."""
    word, first = found[:2]
    if word == "pass":
        return ((second, IN),)
    if word == "early":
        # It gets the token back while its flag is still down.
        return ((first, WISH), (second, IN))
    third = found[2]
    spot = spot_of(manners, first, third)
    lowered = ((third, IN), (first, ("low", spot)), (third, REST), (first, ("anew", spot)))
    return lowered + ((second, IN),)
