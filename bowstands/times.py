"""Orders of time: whether all hands of a ring of waits can come to wait for one another."""

from bowstands.aparts import is_safe
from bowstands.errors import Unfit
from bowstands.manners import evens
from bowstands.values import is_whole


def events(manners, ring):
    """Return the ascending tuple of the events of all hands of ring."""
    return _ascending(_checked_rows(manners, ring))


def _checked_rows(manners, ring):
    if not is_safe(manners):
        raise Unfit()
    return _event_rows(manners, ring)


def _event_rows(manners, ring):
    """Return a dict: for each hand of ring the tuple of its events, in their order."""
    return {hand: _own_events(manners, ring, hand) for hand in ring}


def _own_events(manners, ring, hand):
    order = manners[1][hand]
    ahead = order[:order.index(_next_one(ring, hand))]
    handings = tuple(("hand", hand, other) for other in evens(manners, hand) if other in ring)
    looks = tuple(("look", hand, other) for other in ahead if other in ring)
    return (("raise", hand),) + handings + looks


def _next_one(ring, hand):
    return ring[(ring.index(hand) + 1) % len(ring)]


def _is_even(manners, one, other):
    return manners[0][one][other] == "even"


def _ascending(rows):
    return tuple(sorted([event for row in rows.values() for event in row]))


def order_of(manners, ring):
    """Return any order of time of ring, None if it has none."""
    return _found_order(manners, ring, _checked_rows(manners, ring))


def is_timely(manners, ring):
    """Return whether ring has an order of time."""
    return order_of(manners, ring) is not None


def order_of_safe(manners, ring):
    """Return what order_of does; manners are known to be safe."""
    return _found_order(manners, ring, _event_rows(manners, ring))


def _found_order(manners, ring, rows):
    needs = _needs(manners, ring, rows)
    # Mostly the events need one another round about; this shows without any search.
    if len(_gone_on(rows, needs, {}, ())) < len(needs):
        return None
    return _completed(rows, needs, _bars(rows), ())


def _needs(manners, ring, rows):
    """Return a dict: for each event the events of other hands that stand ahead of it in each order of time."""
    needs = {event: [] for event in _ascending(rows)}
    for look in _looks(rows):
        _, hand, other = look
        if _is_even(manners, hand, other):
            needs[("hand", other, hand)].append(("hand", hand, other))
        else:
            needs[("raise", other)].append(look)
    for hand in ring:
        other = _next_one(ring, hand)
        if _is_even(manners, hand, other):
            needs[("hand", hand, other)].append(("hand", other, hand))
    return needs


def _looks(rows):
    return [event for event in _ascending(rows) if event[0] == "look"]


def _bars(rows):
    """Return a dict: for each raising the looks at its hand, for each look the handings of the one looked at."""
    looks = _looks(rows)
    bars = {("raise", hand): [look for look in looks if look[2] == hand] for hand in rows}
    for look in looks:
        bars[look] = [event for event in rows[look[2]] if event[0] == "hand"]
    return bars


def _completed(rows, needs, bars, done):
    """Return an order of time that begins with the events of done, None if there is none."""
    told = _gone_on(rows, needs, bars, done)
    if len(told) == len(needs):
        return tuple(told)
    for hand in rows:
        event = ("raise", hand)
        if event not in told and _are_done(needs[event], told):
            found = _completed(rows, needs, bars, tuple(told) + (event,))
            if found is not None:
                return found
    return None


def _gone_on(rows, needs, bars, done):
    """Return a dict of done, and behind it all that can come and keeps nothing else from coming, in order."""
    told = {event: True for event in done}
    before = -1
    while before < len(told):
        before = len(told)
        for row in rows.values():
            left = [event for event in row if event not in told]
            for event in left:
                if not _are_done(needs[event], told) or _is_barred(bars, told, event):
                    break
                told[event] = True
    return told


def _are_done(needed, told):
    return all([event in told for event in needed])


def _is_barred(bars, told, event):
    # A flag that goes up bars who has still to look at it, till all is handed over; while it is down it bars nobody.
    if event[0] == "look" and ("raise", event[2]) not in told:
        return False
    return not _are_done(bars.get(event, ()), told)


def order_error(manners, ring, value):
    """Return None if value is an order of time of ring, otherwise the first thing that is wrong with it."""
    rows = _checked_rows(manners, ring)
    if not isinstance(value, tuple):
        return "form"
    wrong = _items_error(rows, value)
    if wrong is not None:
        return wrong
    places = {event: place for place, event in enumerate(value)}
    for place, event in enumerate(value):
        if event[0] == "look" and not _is_look_told(manners, rows, places, event):
            return ("look", place)
    for hand in sorted(ring):
        other = _next_one(ring, hand)
        if _is_even(manners, hand, other) and places[("hand", other, hand)] > places[("hand", hand, other)]:
            return ("token", hand)
    return None


def _items_error(rows, value):
    """Return what is wrong with the items of the tuple value and with their order by OWN, None if nothing is."""
    known = _ascending(rows)
    seen = {}
    for place, item in enumerate(value):
        if not _is_plain(item) or item not in known or item in seen:
            return ("event", place)
        seen[item] = True
    for event in known:
        if event not in seen:
            return ("lacks", event)
    passed = {hand: 0 for hand in rows}
    for place, event in enumerate(value):
        hand = event[1]
        if rows[hand][passed[hand]] != event:
            return ("own", place)
        passed[hand] += 1
    return None


def _is_plain(item):
    # True is no hand, though Python holds it equal to 1; and what has lists in it cannot be looked up.
    if not isinstance(item, tuple):
        return False
    return all([isinstance(part, str) or is_whole(part) for part in item])


def _is_look_told(manners, rows, places, look):
    _, hand, other = look
    if places[look] < places[("raise", other)]:
        return True
    if not _is_even(manners, hand, other) or places[("hand", hand, other)] > places[("hand", other, hand)]:
        return False
    return all([places[event] < places[look] for event in rows[other] if event[0] == "hand"])
