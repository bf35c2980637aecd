"""Standings and steps told another way: a hand goes along its road, from the wish into the room."""

import itertools

IN = ("in", 0)
REST = ("rest", 0)


def road(manners, hand):
    """The places of a hand that is never held up, from behind "begin" to the room, in order."""
    table, orders, early = manners
    even = [other for other in orders[hand] if table[hand][other] == "even"]
    hands = [("hand", spot) for spot in range(len(even))]
    looks = [("look", spot) for spot in range(len(table) - 1)]
    ahead = hands + [("wish", 0)] if hand in early else [("wish", 0)] + hands
    return ahead + looks + [IN]


def all_places(manners, hand):
    """All places that there are for hand."""
    found = [REST] + road(manners, hand)
    for spot, other in enumerate(manners[1][hand]):
        treats = manners[0][hand][other]
        found += [("yield", spot), ("low", spot)] if treats in ("bow", "slip") else []
        found += [("anew", spot)] if treats == "slip" else []
    return found


def even_ones(manners):
    """The pairs i < j that are even, ascending."""
    pairs = itertools.combinations(range(len(manners[0])), 2)
    return [(i, j) for i, j in pairs if manners[0][i][j] == "even"]


def all_standings(manners):
    """All standings by manners, whether or not they come of start."""
    places = [all_places(manners, hand) for hand in range(len(manners[0]))]
    pairs = even_ones(manners)
    for told in itertools.product(*places):
        for held in itertools.product(*pairs):
            yield (told, tuple((i, j, who) for (i, j), who in zip(pairs, held)))


def random_standing(dice, manners):
    """Any standing by manners."""
    places = tuple(dice.choice(all_places(manners, hand)) for hand in range(len(manners[0])))
    return (places, tuple((i, j, dice.choice((i, j))) for i, j in even_ones(manners)))


def flag_of(manners, standing, hand):
    """The flag of hand."""
    word = standing[0][hand][0]
    if word == "hand":
        return "down" if hand in manners[2] else "half"
    return {"look": "up", "yield": "up", "in": "up"}.get(word, "down")


def step_of(manners, standing, hand):
    """The pair (step, standing behind it) of the next step of hand, None if it is barred."""
    table, orders, _ = manners
    places, tokens = standing
    held = {frozenset((i, j)): who for i, j, who in tokens}
    way = road(manners, hand)
    word, spot = places[hand]
    other = orders[hand][spot]
    raised = flag_of(manners, standing, other)
    treats = table[hand][other]

    def onward(place):
        return way[way.index(place) + 1]

    if word == "rest":
        step, place = "begin", way[0]
    elif word == "wish":
        step, place = "raise", onward(("wish", 0))
    elif word == "hand":
        partner = [one for one in orders[hand] if table[hand][one] == "even"][spot]
        held[frozenset((hand, partner))] = partner
        step, place = "hand", onward(("hand", spot))
    elif word == "look":
        may = {
            "pass": True,
            "stand": raised == "down",
            "bow": raised == "down",
            "slip": raised == "down",
            "even": raised == "down" or raised == "up" and held.get(frozenset((hand, other))) == hand,
        }[treats]
        if may:
            place = onward(("look", spot))
            step = "enter" if place == IN else "look"
        elif treats in ("bow", "slip"):
            step, place = "yield", ("yield", spot)
        else:
            return None
    elif word == "yield":
        step, place = "lower", ("low", spot)
    elif word == "low":
        if raised != "down":
            return None
        step, place = "see", ("anew", spot) if treats == "slip" else way[0]
    elif word == "anew":
        place = onward(("look", spot))
        step = "enter" if place == IN else "raise"
    else:
        step, place = "leave", REST
    new_places = tuple(place if one == hand else places[one] for one in range(len(places)))
    return step, (new_places, tuple((i, j, held[frozenset((i, j))]) for i, j, _ in tokens))


def random_run(dice, manners, standing, length):
    """A run of at most so many hands, none of them barred; shorter if all are."""
    run = []
    for _ in range(length):
        able = [hand for hand in range(len(manners[0])) if step_of(manners, standing, hand)]
        if not able:
            break
        run.append(dice.choice(able))
        standing = step_of(manners, standing, run[-1])[1]
    return tuple(run)


def text_of(standing):
    """The text of standing."""
    places, tokens = standing
    shown = [word if word in ("rest", "wish", "in") else f"{word} {spot}" for word, spot in places]
    return ", ".join(shown) + ("; " if tokens else "") + " ".join(str(who) for _, _, who in tokens)
