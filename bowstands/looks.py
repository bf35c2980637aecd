"""What rules tell of meetings, stalls, keepings and ways home, told by going through all standings."""

from bowstands.errors import Unfit
from bowstands.graphs import all_behind, parts
from bowstands.standings import IN, REST, flag, inside, start


def meets_by_all(manners, one, other):
    """Return whether both are within in some standing that comes of start."""
    graph = _graph(manners)
    return any([standing[0][one] == IN and standing[0][other] == IN for standing in graph])


def _graph(manners):
    return all_behind(manners, start(manners), ())


def stuck_by_all(manners):
    """Return whether there is a stall, of whatever length."""
    graph = _graph(manners)
    here = [standing for standing in graph if not inside(standing) and not _is_at_rest(standing)]
    kept = {standing: [edge for edge in graph[standing] if _is_idle(edge[1])] for standing in here}
    return _is_endless(graph, kept)


def _is_at_rest(standing):
    return all([place == REST for place in standing[0]])


def _is_idle(step):
    """Return whether the step may stand in the round of a stall."""
    return step not in ("begin", "enter", "leave")


def kept_by_all(manners, hand):
    """Return whether there is a keeping of hand, of whatever length."""
    graph = _graph(manners)
    here = [standing for standing in graph if standing[0][hand] not in (REST, IN)]
    kept = {standing: [edge for edge in graph[standing] if edge[:2] != (hand, "enter")] for standing in here}
    return _is_endless(graph, kept)


def _is_endless(graph, kept):
    """Return whether some round of the edges that are kept leaves nobody idle that could move."""
    found = parts({standing: _next_ones(kept[standing]) for standing in kept})
    return any([_is_fair(graph, kept, part) for part in found])


def _next_ones(edges):
    return [there for _, _, there in edges]


def _is_fair(graph, kept, part):
    """Return whether each hand moves in the round through all of the part, or rests or is barred in it."""
    inner = {standing: True for standing in part}
    for hand in range(len(part[0][0])):
        waits = any([_waits(graph, standing, hand) for standing in part])
        if not waits and not any([_moves(kept[standing], inner, hand) for standing in part]):
            return False
    return True


def _waits(graph, standing, hand):
    """Return whether hand rests or is barred."""
    return standing[0][hand] == REST or hand not in [mover for mover, _, _ in graph[standing]]


def _moves(edges, inner, hand):
    return any([mover == hand and there in inner for mover, _, there in edges])


def longest_by_all(manners, standing):
    """Return how many steps can be made from standing on if nobody begins, None if there is no greatest number."""
    graph = all_behind(manners, standing, ("begin",))
    lengths = {}
    # Whatever a part leads to stands in the parts ahead of it.
    for part in parts({one: _next_ones(graph[one]) for one in graph}):
        if len(part) > 1:
            return None
        here = part[0]
        lengths[here] = max([0] + [lengths[there] + 1 for there in _next_ones(graph[here])])
    return lengths[standing]


def passed_by_all(manners, hand):
    """Return how many others can go in at most between a raising of hand and its going in, None if there is no most."""
    graph = _graph(manners)
    if "slip" in manners[0][hand]:
        raise Unfit()
    # Where the flag is not down, hand has raised it: now it goes in, or lowers the flag and raises it anew.
    raised = {standing: graph[standing] for standing in graph if flag(manners, standing, hand) != "down"}
    most = {}
    for part in parts({here: [there for there in _next_ones(raised[here]) if there in raised] for here in raised}):
        numbers = _numbers(raised, part, most, hand)
        if not numbers:
            continue
        if _passes_itself(raised, part):
            return None
        for standing in part:
            most[standing] = max(numbers)
    return max([most[standing] for standing in most])


def _numbers(raised, part, most, hand):
    """Return the numbers of goings-in of others, from out of the part on, till hand goes in."""
    numbers = []
    for standing in part:
        for mover, step, there in raised[standing]:
            if mover == hand and step == "enter":
                numbers.append(0)
            elif there in most:
                numbers.append(most[there] + (1 if step == "enter" else 0))
    return numbers


def _passes_itself(raised, part):
    """Return whether somebody goes in on the way from one standing of the part to another one."""
    inner = {standing: True for standing in part}
    return any([step == "enter" and there in inner for here in part for _, step, there in raised[here]])
