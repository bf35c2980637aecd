"""What the modules alls and looks tell, told another way, by the steps of tests/model.py."""

from tests import model


def distances(graph, first):
    """How many steps each standing is away from the first one."""
    found = {first: 0}
    todo = [first]
    for standing in todo:
        for _, _, there in graph[standing]:
            if there not in found:
                found[there] = found[standing] + 1
                todo.append(there)
    return found


def come(manners, standing, most):
    """All standings that come of standing if nobody begins; None if they are more than most."""
    found = {standing}
    todo = [standing]
    for here in todo:
        for hand in range(len(here[0])):
            made = model.step_of(manners, here, hand)
            if made and made[0] != "begin" and made[1] not in found:
                found.add(made[1])
                todo.append(made[1])
        if len(found) > most:
            return None
    return found


def longest(manners, standing):
    """The greatest number of steps from standing on if nobody begins; None if there is none."""
    numbers = {}
    on_way = set()
    todo = [standing]
    while todo:
        here = todo[-1]
        made = [model.step_of(manners, here, hand) for hand in range(len(here[0]))]
        there = [told[1] for told in made if told and told[0] != "begin"]
        on_way.add(here)
        missing = [one for one in there if one not in numbers]
        if any(one in on_way for one in missing):
            return None
        if missing:
            todo.append(missing[0])
            continue
        numbers[here] = max((numbers[one] + 1 for one in there), default=0)
        on_way.discard(here)
        todo.pop()
    return numbers[standing]


def most_passed(graph, manners, hand):
    """How many others go in at most between a raising of hand and its going in; None if there is no most.

    Told by the lots of standings in which hand may be behind 0, 1, 2, .. goings-in.
    """
    def is_raised(standing):
        return standing[0][hand][0] in ("look", "hand") and model.flag_of(manners, standing, hand) != "down"

    raised = {one: [edge for edge in graph[one] if is_raised(edge[2])] for one in graph if is_raised(one)}
    good = {one for one in raised if any(edge[:2] == (hand, "enter") for edge in graph[one])}
    before = None
    while before != len(good):
        before = len(good)
        good |= {one for one in raised if any(edge[2] in good for edge in raised[one])}

    def closed(lot):
        lot = set(lot)
        todo = list(lot)
        while todo:
            for _, step, there in raised[todo.pop()]:
                if step != "enter" and there in good and there not in lot:
                    lot.add(there)
                    todo.append(there)
        return frozenset(lot)

    lot = closed(edge[2] for one in graph for edge in graph[one] if edge[:2] == (hand, "raise") and edge[2] in good)
    lots = []
    while lot:
        if lot in lots:
            return None
        lots.append(lot)
        lot = closed(there for one in lot for _, step, there in raised[one] if step == "enter" and there in good)
    return len(lots) - 1
