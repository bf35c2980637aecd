"""Broken runs told another way, with the steps of tests/model.py: hands go, or take their flags down and rest."""

from tests import loopmodel, model, slowmodel


def done(manners, standing, pair):
    """The pair (word, standing behind it) of what the hand does; None if it cannot."""
    hand, word = pair
    if word == "go":
        return model.step_of(manners, standing, hand)
    if standing[0][hand] == model.REST:
        return None
    return ("drop", slowmodel.with_place(standing, hand, model.REST))


def gone(manners, standing, run):
    """The list of (word, standing behind it), as long as each pair can be done."""
    found = []
    for pair in run:
        made = done(manners, standing, pair)
        if made is None:
            break
        found.append(made)
        standing = made[1]
    return found


def reached(manners):
    """A dict: each standing that comes of start by steps and givings up to its (hand, word, standing behind)."""
    found = {}
    todo = [loopmodel.first(manners)]
    while todo:
        standing = todo.pop()
        if standing in found:
            continue
        found[standing] = []
        for hand in range(len(manners[0])):
            made = [done(manners, standing, (hand, word)) for word in ("go", "drop")]
            found[standing] += [(hand,) + told for told in made if told is not None]
        todo += [there for _, _, there in found[standing]]
    return found


def random_run(dice, manners, standing, length, often=0.15):
    """A broken run of at most so many pairs."""
    run = []
    for _ in range(length):
        word = "drop" if dice.random() < often else "go"
        able = [hand for hand in range(len(manners[0])) if done(manners, standing, (hand, word))]
        if able:
            run.append((dice.choice(able), word))
            standing = done(manners, standing, run[-1])[1]
    return tuple(run)


def is_broken_run(manners, value):
    if type(value) is not tuple or len(value) > 900:
        return False
    for item in value:
        if type(item) is not tuple or len(item) != 2 or type(item[1]) is not str or item[1] not in ("go", "drop"):
            return False
        if type(item[0]) is not int or not 0 <= item[0] < len(manners[0]):
            return False
    return True


def stall_error_of(manners, value):
    """What is wrong with a stall behind a broken run, told straight from [M3]."""
    if type(value) is not tuple or len(value) != 2:
        return "form"
    if not is_broken_run(manners, value[0]) or not loopmodel.is_run(manners, value[1]):
        return "form"
    told = gone(manners, loopmodel.first(manners), value[0])
    if len(told) < len(value[0]):
        return ("run", len(told))
    here = told[-1][1] if told else loopmodel.first(manners)
    words = [word for word, _ in here[0]]
    if "in" in words:
        return "within"
    if set(words) == {"rest"}:
        return "rest"
    return loopmodel.round_error_of(manners, here, value[1], range(len(words)), ("begin", "enter", "leave"))


def keeping_error_of(manners, hand, value):
    """What is wrong with a drop keeping of hand, told straight from [M4]."""
    if type(value) is not tuple or len(value) != 2 or not all(is_broken_run(manners, run) for run in value):
        return "form"
    told = gone(manners, loopmodel.first(manners), value[0])
    if len(told) < len(value[0]):
        return ("run", len(told))
    here = told[-1][1] if told else loopmodel.first(manners)
    if here[0][hand][0] in ("rest", "in"):
        return {"rest": "rest", "in": "within"}[here[0][hand][0]]
    told = gone(manners, here, value[1])
    if len(told) < len(value[1]):
        return ("round", len(told))
    for place, ((mover, _), (word, _)) in enumerate(zip(value[1], told)):
        if mover == hand and word in ("drop", "enter", "leave"):
            return ("word", place)
    standings = [here] + [standing for _, standing in told]
    if standings[-1] != here:
        return "back"
    for one in range(len(manners[0])):
        if loopmodel.is_idle(manners, standings, [mover for mover, _ in value[1]], one):
            return ("hand", one)
    return None


def changed(dice, manners, run):
    """A broken run, or a run, that is a little otherwise; now and then no such thing."""
    many = len(manners[0])
    run = list(run)
    place = dice.randrange(len(run) + 1)
    change = dice.randrange(6)
    if change == 0:
        run.insert(place, (dice.randrange(many), dice.choice(("go", "go", "drop"))))
    elif change == 1:
        del run[place:place + 1]
    elif change == 2:
        del run[place:]
    elif change == 3 and run:
        hand = dice.choice(list(range(many)) * 3 + [many, True])
        run[place - 1] = (hand, run[place - 1][1]) if isinstance(run[place - 1], tuple) else hand
    elif change == 4 and run:
        hand = run[place - 1][0] if isinstance(run[place - 1], tuple) else run[place - 1]
        run[place - 1] = dice.choice(((hand, "drop"), (hand, "go"), (hand, "jump"), [hand, "go"], (hand,), hand))
    return tuple(run)
