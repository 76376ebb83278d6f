"""Rings and their chords; of each web an order without fill or a bare ring."""

from fewfills.game import new_pairs, pairs_among
from fewfills.webs import is_place, neighbours, rising_once


def sides(ring):
    """The pairs of places that stand side by side in a ring, rising."""
    # The place at -1 is the last one, which stands beside the first.
    return rising_once([(ring[k - 1], place) for k, place in enumerate(ring)])


def is_ring(web, thing):
    if not isinstance(thing, list) or len(thing) < 3:
        return False
    # Places are asked for first: things of other kinds may not even be compared.
    if not all([is_place(web[0], place) for place in thing]):
        return False
    if len(set(thing)) != len(thing):
        return False
    return all([side in web[1] for side in sides(thing)])


def pairs_apart(ring):
    """The pairs of a ring's places that don't stand side by side in it, rising."""
    beside = sides(ring)
    return [pair for pair in rising_once(pairs_among(ring)) if pair not in beside]


def chords_of(web, ring):
    return [pair for pair in pairs_apart(ring) if pair in web[1]]


def is_bare(web, thing):
    return is_ring(web, thing) and len(thing) >= 4 and not chords_of(web, thing)


def shortest_way(web, places, a, b):
    """A shortest way from a to b through some of the places (b is one of them); None where none leads there."""
    ways = [[a]]
    seen = [a]
    while ways:
        way = ways.pop(0)
        if way[-1] == b:
            return way
        for place in neighbours(web, way[-1]):
            if place in places and place not in seen:
                seen.append(place)
                ways.append(way + [place])
    return None


def bare_ring(web):
    """A bare ring of the web; None where it has none."""
    places = list(range(web[0]))
    for v in places:
        near = neighbours(web, v)
        far = [place for place in places if place != v and place not in near]
        for a, b in new_pairs(web, places, v):
            # No inner place is tied to v, and a shortest way has no short cut: so nothing is tied across.
            way = shortest_way(web, far + [b], a, b)
            if way is not None:
                return [v] + way
    return None


def order_without_fill(web):
    """An order whose fill is none, of a web without a bare ring."""
    order = []
    left = list(range(web[0]))
    while left:
        # Without a bare ring there is always one such, and striking it out brings no bare ring.
        free = [v for v in left if not new_pairs(web, left, v)]
        order.append(free[0])
        left.remove(free[0])
    return order


def without_fill(web):
    ring = bare_ring(web)
    if ring is not None:
        return ("ring", ring)
    return ("order", order_without_fill(web))
