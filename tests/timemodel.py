"""Events and orders of time told another way, straight from [E3] and [E4]."""


def next_ones(ring):
    """A dict: each hand of ring to the one behind it."""
    return dict(zip(ring, ring[1:] + ring[:1]))


def own_rows(manners, ring):
    """A dict: each hand of ring to the list of its events, in their order."""
    table, orders, _ = manners
    rows = {}
    for hand in ring:
        rows[hand] = [("raise", hand)]
        for other in orders[hand]:
            if other in ring and table[hand][other] == "even":
                rows[hand].append(("hand", hand, other))
        for other in orders[hand]:
            if other == next_ones(ring)[hand]:
                break
            if other in ring:
                rows[hand].append(("look", hand, other))
    return rows


def all_events(manners, ring):
    return sorted(sum(own_rows(manners, ring).values(), []))


def is_look_right(manners, ring, value, place):
    """LOOKS, of the look at this place of value."""
    _, i, j = value[place]
    if value.index(("raise", j)) > place:
        return True
    if manners[0][i][j] != "even":
        return False
    if value.index(("hand", i, j)) > value.index(("hand", j, i)):
        return False
    return all(value.index(event) < place for event in own_rows(manners, ring)[j] if event[0] == "hand")


def error_of(manners, ring, value):
    """What is due of order_error."""
    rows = own_rows(manners, ring)
    if type(value) is not tuple:
        return "form"
    known = {repr(event) for row in rows.values() for event in row}
    ahead = set()
    for place, item in enumerate(value):
        if repr(item) not in known or repr(item) in ahead:
            return ("event", place)
        ahead.add(repr(item))
    for event in all_events(manners, ring):
        if event not in value:
            return ("lacks", event)
    for place, event in enumerate(value):
        left = [one for one in rows[event[1]] if one not in value[:place]]
        if left[0] != event:
            return ("own", place)
    for place, event in enumerate(value):
        if event[0] == "look" and not is_look_right(manners, ring, value, place):
            return ("look", place)
    for hand, other in sorted(next_ones(ring).items()):
        if manners[0][hand][other] == "even":
            if value.index(("hand", other, hand)) > value.index(("hand", hand, other)):
                return ("token", hand)
    return None


def orders(manners, ring):
    """Any order of time of ring, None if there is none: event by event, going through all that can stand next."""
    rows = own_rows(manners, ring)
    hands = list(ring)
    followers = next_ones(ring)
    seen = set()

    def fits(event, ahead):
        """Whether the event may stand behind those ahead, as LOOKS and TOKENS ask."""
        if event[0] == "raise":
            return True
        word, i, j = event
        if word == "hand":
            return followers[i] != j or ("hand", j, i) in ahead
        if ("raise", j) not in ahead:
            return True
        if manners[0][i][j] != "even":
            return False
        handings = [one for one in rows[j] if one[0] == "hand"]
        if any(one not in ahead for one in handings):
            return False
        return ahead.index(("hand", i, j)) < ahead.index(("hand", j, i))

    def key_of(ahead):
        """All of what is ahead that what comes behind can hang on."""
        done = tuple(sum(one[1] == hand for one in ahead) for hand in hands)
        firsts = tuple(
            ahead.index(one) < ahead.index(("hand", one[2], one[1]))
            for one in sorted(ahead)
            if one[0] == "hand" and ("hand", one[2], one[1]) in ahead
        )
        return done, firsts

    def search(ahead):
        if key_of(ahead) in seen:
            return None
        seen.add(key_of(ahead))
        if len(ahead) == sum(map(len, rows.values())):
            return ahead
        for hand in hands:
            left = [one for one in rows[hand] if one not in ahead]
            if left and fits(left[0], ahead):
                found = search(ahead + (left[0],))
                if found is not None:
                    return found
        return None

    return search(())
