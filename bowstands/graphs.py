"""All standings that come of one another, and which of them lead back to one another."""

from bowstands.bounds import MAX_COME
from bowstands.errors import TooMany
from bowstands.steps import after, next_step


def all_behind(manners, standing, left_out):
    """Return all standings that come of standing by steps the words of which are not among left_out.

    They are the keys of a dict, the nearest ones first; behind each stand its triples (hand, step,
    standing behind it). Raises TooMany if there are more than MAX_COME standings.
    """
    graph = {standing: []}
    todo = [standing]
    while todo:
        news = []
        for here in todo:
            made = _made(manners, here, left_out)
            graph[here] = made
            for _, _, there in made:
                if there in graph:
                    continue
                if len(graph) == MAX_COME:
                    raise TooMany(MAX_COME)
                graph[there] = []
                news.append(there)
        todo = news
    return graph


def _made(manners, standing, left_out):
    """Return the triples (hand, step, standing behind it) of all steps that can be made."""
    told = [(hand, next_step(manners, standing, hand)) for hand in range(len(standing[0]))]
    steps = [(hand, step) for hand, step in told if step is not None and step not in left_out]
    return [(hand, step, after(manners, standing, hand, step)) for hand, step in steps]


def parts(edges):
    """Return the list of the lists of nodes that each lead to each other node of their list.

    edges is a dict of each node to the nodes to which it leads. No list leads to one behind it.
    """
    order = _finished(_turned(edges))
    found = []
    seen = {}
    for root in order[::-1]:
        part = _led_to(edges, root, seen)
        if part:
            found.append(part)
    return found


def _turned(edges):
    """Return the edges the other way round."""
    back = {node: [] for node in edges}
    for node in edges:
        for other in edges[node]:
            back[other].append(node)
    return back


def _finished(edges):
    """Return the nodes in the order in which a search in depth is done with them."""
    order = []
    seen = {}
    for root in edges:
        todo = [(root, False)]
        while todo:
            node, is_done = todo.pop()
            if is_done:
                order.append(node)
            elif node not in seen:
                seen[node] = True
                todo.append((node, True))
                todo.extend([(other, False) for other in edges[node]])
    return order


def _led_to(edges, root, seen):
    """Return the nodes to which root leads that were not seen so far, and note them as seen."""
    found = []
    todo = [root]
    while todo:
        node = todo.pop()
        if node not in seen:
            seen[node] = True
            found.append(node)
            todo.extend(edges[node])
    return found
