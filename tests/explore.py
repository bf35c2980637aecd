"""What can come of manners, by going through all standings that come of start, with the steps of tests/model.py."""

from tests import model


def reached(manners):
    """A dict: each standing that comes of start to the list of its (hand, step, standing behind)."""
    hands = range(len(manners[0]))
    first = ((model.REST,) * len(hands), tuple((i, j, i) for i, j in model.even_ones(manners)))
    found = {}
    todo = [first]
    while todo:
        standing = todo.pop()
        if standing in found:
            continue
        made = [(hand, model.step_of(manners, standing, hand)) for hand in hands]
        found[standing] = [(hand,) + told for hand, told in made if told]
        todo += [behind for _, _, behind in found[standing]]
    return found


def within(standing):
    """The hands that are within."""
    return [hand for hand, place in enumerate(standing[0]) if place == model.IN]


def meetings(graph):
    """The pairs i < j that are within together in some standing."""
    found = set()
    for standing in graph:
        inside = within(standing)
        found |= {(i, j) for i in inside for j in inside if i < j}
    return found


def parts(graph, is_kept):
    """The lists of standings each of which leads to each other one of its list by steps that are kept."""
    kept = {one: [edge for edge in graph[one] if is_kept(edge)] for one in graph}
    number, low, found, stack = {}, {}, [], []
    held = set()
    for root in graph:
        if root in number:
            continue
        work = [(root, iter(kept[root]))]
        number[root] = low[root] = len(number)
        stack.append(root)
        held.add(root)
        while work:
            here, edges = work[-1]
            for _, _, there in edges:
                if there not in number:
                    number[there] = low[there] = len(number)
                    stack.append(there)
                    held.add(there)
                    work.append((there, iter(kept[there])))
                    break
                if there in held:
                    low[here] = min(low[here], number[there])
            else:
                work.pop()
                if work:
                    low[work[-1][0]] = min(low[work[-1][0]], low[here])
                if low[here] == number[here]:
                    part = []
                    while not part or part[-1] != here:
                        part.append(stack.pop())
                        held.discard(part[-1])
                    found.append(part)
    return found


def _nobody_is_idle(graph, part, is_kept):
    """Whether each hand moves within the part, or rests or is barred somewhere in it."""
    inside = set(part)
    for hand in range(len(part[0][0])):
        moves = any(
            edge[0] == hand and edge[2] in inside for one in part for edge in graph[one] if is_kept(edge)
        )
        waits = any(
            one[0][hand] == model.REST or all(edge[0] != hand for edge in graph[one]) for one in part
        )
        if not moves and not waits:
            return False
    return True


def can_stall(graph, out=("begin", "enter", "leave")):
    """Whether there is a stall; out are the words that may not stand in its round."""
    def is_kept(edge):
        return edge[1] not in out

    for part in parts(graph, is_kept):
        if within(part[0]) or all(place == model.REST for place in part[0][0]):
            continue
        if _nobody_is_idle(graph, part, is_kept):
            return True
    return False


def can_keep_out(graph, hand, out=("enter", "leave")):
    """Whether there is a keeping of hand; out are the words that it may not have in its round."""
    def is_kept(edge):
        return edge[0] != hand or edge[1] not in out

    for part in parts(graph, is_kept):
        if part[0][0][hand] not in (model.REST, model.IN) and _nobody_is_idle(graph, part, is_kept):
            return True
    return False
