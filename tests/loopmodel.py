"""What is wrong with pairs of runs, told straight from [F3] and [H3], with the steps of tests/model.py."""

from tests import model


def is_run(manners, value):
    if type(value) is not tuple or len(value) > 900:
        return False
    return all(type(hand) is int and 0 <= hand < len(manners[0]) for hand in value)


def is_pair(manners, value):
    return type(value) is tuple and len(value) == 2 and is_run(manners, value[0]) and is_run(manners, value[1])


def first(manners):
    """The standing in which all rest."""
    return ((model.REST,) * len(manners[0]), tuple((i, j, i) for i, j in model.even_ones(manners)))


def gone(manners, standing, run):
    """The list of (step, standing behind it), as long as no hand is barred."""
    told = []
    for hand in run:
        made = model.step_of(manners, standing, hand)
        if made is None:
            break
        told.append(made)
        standing = made[1]
    return told


def is_idle(manners, standings, run, hand):
    """Whether the hand makes no step, and neither rests nor is barred at any time."""
    if hand in run:
        return False
    for standing in standings:
        if standing[0][hand] == model.REST or model.step_of(manners, standing, hand) is None:
            return False
    return True


def stall_error_of(manners, value):
    if not is_pair(manners, value):
        return "form"
    run, again = value
    told = gone(manners, first(manners), run)
    if len(told) < len(run):
        return ("run", len(told))
    here = told[-1][1] if told else first(manners)
    words = [place[0] for place in here[0]]
    if "in" in words:
        return "within"
    if set(words) == {"rest"}:
        return "rest"
    return round_error_of(manners, here, again, range(len(words)), ("begin", "enter", "leave"))


def keeping_error_of(manners, hand, value):
    if not is_pair(manners, value):
        return "form"
    run, again = value
    told = gone(manners, first(manners), run)
    if len(told) < len(run):
        return ("run", len(told))
    here = told[-1][1] if told else first(manners)
    if here[0][hand][0] in ("rest", "in"):
        return {"rest": "rest", "in": "within"}[here[0][hand][0]]
    return round_error_of(manners, here, again, (hand,), ("enter", "leave"))


def round_error_of(manners, here, again, hands, barred_words):
    """What is wrong with a round from here, if such words of steps of such hands may not come in it."""
    told = gone(manners, here, again)
    if len(told) < len(again):
        return ("round", len(told))
    for place, (hand, (word, _)) in enumerate(zip(again, told)):
        if hand in hands and word in barred_words:
            return ("word", place)
    standings = [here] + [standing for _, standing in told]
    if standings[-1] != here:
        return "back"
    for hand in range(len(manners[0])):
        if is_idle(manners, standings, again, hand):
            return ("hand", hand)
    return None


def changed_pair(dice, manners, value):
    """A pair of runs that is a little otherwise."""
    runs = [list(run) for run in value]
    for _ in range(dice.choice((0, 1, 1, 2))):
        run = dice.choice(runs)
        place = dice.randrange(len(run) + 1)
        change = dice.randrange(4)
        if change == 0:
            run.insert(place, dice.randrange(len(manners[0])))
        elif change == 1:
            del run[place:place + 1]
        elif change == 2:
            del run[place:]
        elif run:
            run[place - 1] = dice.choice(list(range(len(manners[0]))) * 4 + [len(manners[0]), True, -1, None, "0"])
    return (tuple(runs[0]), tuple(runs[1]))
