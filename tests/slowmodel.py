"""Slow standings and slow steps told another way: what is seen of a flag is put in its place, for a step at once."""

import itertools

from tests import model

# The place of a hand whose flag is surely so, to whoever looks at it.
SHOWN = {"down": ("rest", 0), "half": ("hand", 0), "up": ("in", 0)}

# Changing places: the place ahead of the change.
AHEAD = {"rise": "wish", "sink": "yield", "again": "anew", "empty": "in"}
BEHIND = {ahead: place for place, ahead in AHEAD.items()}


def is_half_first(manners, hand):
    """Whether the flag of hand is half up at first."""
    return "even" in manners[0][hand] and hand not in manners[2]


def views(manners, standing, hand):
    """What may be seen of the flag of hand."""
    word = standing[0][hand][0]
    known = {
        "rise": ("down", "half" if is_half_first(manners, hand) else "up"), "set": ("half", "up"),
        "again": ("down", "up"), "sink": ("up", "down"), "empty": ("up", "down"),
    }
    return known.get(word) or (model.flag_of(manners, standing, hand),)


def all_places(manners, hand):
    """All places that there are for hand."""
    found = model.all_places(manners, hand)
    found += [(BEHIND[word], spot) for word, spot in found if word in BEHIND]
    return found + ([("set", 0)] if is_half_first(manners, hand) else [])


def with_place(standing, hand, place):
    places = list(standing[0])
    places[hand] = place
    return (tuple(places), standing[1])


def steps(manners, standing, hand):
    """A dict: the word of each step that hand may make next to the slow standing behind it; "wait" to standing."""
    word, spot = standing[0][hand]
    if word in BEHIND:
        name = {"wish": "raise", "anew": "raise", "yield": "lower", "in": "leave"}[word]
        return {name: with_place(standing, hand, (BEHIND[word], spot))}
    if word in AHEAD:
        name, there = model.step_of(manners, with_place(standing, hand, (AHEAD[word], spot)), hand)
        return {{"raise": "raised", "lower": "lowered", "leave": "left"}.get(name, name): there}
    if word == "set":
        return {"set": with_place(standing, hand, ("look", 0))}
    if word in ("look", "low"):
        return seeing(manners, standing, hand, manners[1][hand][spot])
    name, there = model.step_of(manners, standing, hand)
    if name == "hand" and there[0][hand] == ("look", 0):
        there = with_place(there, hand, ("set", 0))
    return {name: there}


def seeing(manners, standing, hand, other):
    found = {}
    for seen in views(manners, standing, other):
        as_seen = with_place(standing, other, SHOWN[seen])
        made = model.step_of(manners, as_seen, hand)
        if made is None:
            found["wait"] = standing
        else:
            found[made[0]] = with_place(made[1], other, standing[0][other])
    return found


def first(manners):
    """All rest, each token with the lesser one of its two."""
    places = (model.REST,) * len(manners[0])
    return (places, tuple((i, j, i) for i, j in model.even_ones(manners)))


def reached(manners, most=None):
    """A dict: each slow standing that comes of start to its (hand, word, standing behind); None beyond most of them.

    Who may have to wait has a step "wait" there, which leads to the same standing.
    """
    found = {}
    todo = [first(manners)]
    while todo:
        standing = todo.pop()
        if standing in found:
            continue
        edges = []
        for hand in range(len(manners[0])):
            edges += [(hand, word, there) for word, there in steps(manners, standing, hand).items()]
        found[standing] = edges
        todo += [there for _, _, there in edges]
        if most is not None and len(found) > most:
            return None
    return found


def all_standings(manners):
    """All slow standings by manners, whether or not they come of start."""
    places = [all_places(manners, hand) for hand in range(len(manners[0]))]
    pairs = model.even_ones(manners)
    for told in itertools.product(*places):
        for held in itertools.product(*pairs):
            yield (told, tuple((i, j, who) for (i, j), who in zip(pairs, held)))


def random_standing(dice, manners):
    """Any slow standing by manners."""
    places = tuple(dice.choice(all_places(manners, hand)) for hand in range(len(manners[0])))
    return (places, tuple((i, j, dice.choice((i, j))) for i, j in model.even_ones(manners)))


def random_run(dice, manners, standing, length):
    """A slow run of at most so many pairs."""
    run = []
    for _ in range(length):
        able = [
            (hand, word) for hand in range(len(manners[0]))
            for word in sorted(steps(manners, standing, hand)) if word != "wait"
        ]
        if not able:
            break
        hand, word = dice.choice(able)
        run.append((hand, word))
        standing = steps(manners, standing, hand)[word]
    return tuple(run)


def gone(manners, standing, run):
    """The list of the standings behind the pairs, as long as each can be made."""
    found = []
    for hand, word in run:
        made = steps(manners, standing, hand)
        if word == "wait" or word not in made:
            break
        standing = made[word]
        found.append(standing)
    return found


def is_slow_run(manners, value):
    if type(value) is not tuple or len(value) > 1500:
        return False
    for item in value:
        if type(item) is not tuple or len(item) != 2 or type(item[1]) is not str:
            return False
        if type(item[0]) is not int or not 0 <= item[0] < len(manners[0]):
            return False
    return True


def is_pair(manners, value):
    return type(value) is tuple and len(value) == 2 and all(is_slow_run(manners, run) for run in value)


def stall_error_of(manners, value):
    """What is wrong with a slow stall, told straight from [L6]."""
    if not is_pair(manners, value):
        return "form"
    run, again = value
    told = gone(manners, first(manners), run)
    if len(told) < len(run):
        return ("run", len(told))
    here = ([first(manners)] + told)[-1]
    words = [word for word, _ in here[0]]
    if "in" in words:
        return "within"
    if set(words) == {"rest"}:
        return "rest"
    return round_error_of(manners, here, again, range(len(words)), ("begin", "enter", "leave", "left"))


def keeping_error_of(manners, hand, value):
    """What is wrong with a slow keeping of hand, told straight from [L6]."""
    if not is_pair(manners, value):
        return "form"
    run, again = value
    told = gone(manners, first(manners), run)
    if len(told) < len(run):
        return ("run", len(told))
    here = ([first(manners)] + told)[-1]
    if here[0][hand][0] in ("rest", "in"):
        return {"rest": "rest", "in": "within"}[here[0][hand][0]]
    return round_error_of(manners, here, again, (hand,), ("enter", "leave"))


def round_error_of(manners, here, again, hands, barred_words):
    told = gone(manners, here, again)
    if len(told) < len(again):
        return ("round", len(told))
    for place, (hand, word) in enumerate(again):
        if hand in hands and word in barred_words:
            return ("word", place)
    standings = [here] + told
    if standings[-1] != here:
        return "back"
    for hand in range(len(manners[0])):
        waits = any(one[0][hand] == model.REST or "wait" in steps(manners, one, hand) for one in standings)
        if not waits and all(mover != hand for mover, _ in again):
            return ("hand", hand)
    return None


def way_home(manners, standing, row, sights, most):
    """The way home by turns, told straight from [L7].

    For each step its pair, and the standing, the turns and the forks ahead of it; None beyond so many steps.
    """
    way, forks = [], 0
    for turn in itertools.count():
        able = {
            hand: sorted(steps(manners, standing, hand)) for hand in range(len(row)) if standing[0][hand] != model.REST
        }
        if all(words == ["wait"] for words in able.values()):
            return way
        hand = row[turn % len(row)]
        words = able.get(hand, ["wait"])
        ahead = forks
        if len(words) == 2:
            word = words[sights[forks % len(sights)]]
            forks += 1
        else:
            word = words[0]
        if word != "wait":
            if len(way) == most:
                return None
            way.append(((hand, word), standing, turn, ahead))
            standing = steps(manners, standing, hand)[word]


def home(manners, standing, row, sights, most):
    """The slow run of the way home; None if there are more steps than most."""
    way = way_home(manners, standing, row, sights, most)
    return None if way is None else tuple(pair for pair, _, _, _ in way)


def changed_pair(dice, manners, value):
    """A pair of slow runs that is a little otherwise."""
    many = len(manners[0])
    words = "begin raise raised hand set look yield lower lowered see enter leave left wait go".split()
    runs = [list(run) for run in value]
    for _ in range(dice.choice((0, 1, 1, 2))):
        run = dice.choice(runs)
        place = dice.randrange(len(run) + 1)
        change = dice.randrange(5)
        if change == 0:
            run.insert(place, (dice.randrange(many), dice.choice(words)))
        elif change == 1:
            del run[place:place + 1]
        elif change == 2:
            del run[place:]
        elif not run or type(run[place - 1]) is not tuple or len(run[place - 1]) != 2:
            continue
        elif change == 3:
            run[place - 1] = (dice.choice(list(range(many)) * 3 + [many, True, None]), run[place - 1][1])
        else:
            run[place - 1] = dice.choice((
                (run[place - 1][0], dice.choice(words)), (run[place - 1][0],), list(run[place - 1]), run[place - 1][0],
                (run[place - 1][0], None), run[place - 1] + (0,), (run[place - 1][0], "wait"),
            ))
    return (tuple(runs[0]), tuple(runs[1]))
