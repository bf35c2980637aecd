"""One at a time: the faults by which two hands can be in the room together."""


def fault(manners, one, other):
    """Return the first fault of these two hands, asked either way round, None if they have none."""
    # Each kind of fault is asked of both ahead of the next kind.
    for pair in zip(_asked(manners, one, other), _asked(manners, other, one)):
        for found in pair:
            if found is not None:
                return found
    return None


def _asked(manners, a, b):
    """Return for each kind, in order, the fault that a has by b, None where it has none."""
    table, orders, early = manners
    order = orders[a]
    treats = table[a][b]
    slips = [c for c in order if table[a][c] == "slip"]
    later = [c for c in order[order.index(b) + 1:] if c in slips]
    return (
        ("pass", a, b) if treats == "pass" else None,
        ("slip", a, b) if treats == "slip" else None,
        ("behind", a, later[0]) if later else None,
        ("early", a) if treats == "even" and a in early else None,
        ("ahead", a, slips[0]) if treats == "even" and slips else None,
    )


def faults(manners):
    """Return the ascending triples (i, j, fault), i < j, of all two hands that have a fault."""
    many = len(manners[0])
    told = [(i, j, fault(manners, i, j)) for i in range(many) for j in range(i + 1, many)]
    return tuple(triple for triple in told if triple[2] is not None)


def is_safe(manners):
    """Return whether no two hands have a fault."""
    return not faults(manners)
