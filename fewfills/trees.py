"""The tree of work: which places wait for which when they are struck out in an order."""

from fewfills.game import filled
from fewfills.webs import check_order, check_place, neighbours


def parents(web, order):
    full = filled(web, order)
    told = [None] * web[0]
    for k, v in enumerate(order):
        near = neighbours(full, v)
        behind = [place for place in order[k + 1:] if place in near]
        if behind:
            told[v] = behind[0]
    return told


def places_above(tree, place):
    """The places to which one comes by going from the place to its parent, and so on to the root."""
    found = []
    here = tree[place]
    while here is not None:
        found.append(here)
        here = tree[here]
    return found


def waits(web, order, v):
    # What is no place is refused ahead of what is no order.
    check_place(web[0], v)
    tree = parents(web, order)
    return [place for place in range(web[0]) if v in places_above(tree, place)]


def keeps(parents, order):
    # An order hangs on how many places there are, not on their ties.
    check_order((len(parents), ()), order)
    return all([parents[place] not in order[:k] for k, place in enumerate(order)])
