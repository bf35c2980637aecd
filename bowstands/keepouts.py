"""Who can be kept out for ever, and how often a hand is passed at most."""

from bowstands.aparts import is_safe
from bowstands.errors import BadRun, Unfit
from bowstands.loops import ever_barred, is_loop, return_error
from bowstands.manners import evens
from bowstands.runs import behind, trace
from bowstands.stalls import is_never_stuck
from bowstands.standings import IN, REST, start
from bowstands.walks import spot_of, walked


def can_be_kept_out(manners, hand):
    """Return whether hand can be kept out for ever."""
    if not is_never_stuck(manners):
        raise Unfit()
    return "bow" in manners[0][hand]


def keeping(manners, hand):
    """Return any keeping of hand, None if there is none."""
    if not can_be_kept_out(manners, hand):
        return None
    other = manners[0][hand].index("bow")
    spot = spot_of(manners, hand, other)
    run, here = walked(manners, start(manners), [(other, IN), (hand, ("low", spot))])
    again, _ = walked(manners, here, [(other, REST), (other, IN)])
    return (run, again)


def keeping_error(manners, hand, value):
    """Return None if value is a keeping of hand, otherwise the first thing that is wrong with it."""
    if not is_loop(value, len(manners[0])):
        return "form"
    run, again = value
    try:
        here = behind(manners, start(manners), run)
    except BadRun as wrong:
        return ("run", wrong.place)
    if here[0][hand] == REST:
        return "rest"
    if here[0][hand] == IN:
        return "within"
    return _round_error(manners, hand, here, again)


def _round_error(manners, hand, here, again):
    try:
        told = trace(manners, here, again)
    except BadRun as wrong:
        return ("round", wrong.place)
    for place, (step, _) in enumerate(told):
        if again[place] == hand and step in ("enter", "leave"):
            return ("word", place)
    standings = [here] + [now for _, now in told]
    return return_error(standings, again, ever_barred(manners, standings))


def most_passed(manners, hand):
    """Return how often hand is passed at most from its last raising on."""
    if not is_safe(manners):
        raise Unfit()
    others = [order for order in manners[1] if hand in order[:-1]]
    return len(others) + len(evens(manners, hand))
