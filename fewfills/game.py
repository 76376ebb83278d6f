"""The game: places are struck out of a web, and what they leave behind becomes tied."""

from fewfills.webs import check_order, check_place, check_places, neighbours, rising_once


def pairs_among(places):
    """All pairs of unlike places."""
    pairs = []
    for k, a in enumerate(places):
        pairs.extend([(a, b) for b in places[k + 1:]])
    return pairs


def pairs_round(web, left, v):
    """The pairs of neighbours of v that are left, the lesser place first, rising."""
    return pairs_among([place for place in neighbours(web, v) if place in left])


def new_pairs(web, left, v):
    """The pairs that become tied when v is struck out of the places left, and aren't tied yet."""
    return [pair for pair in pairs_round(web, left, v) if pair not in web[1]]


def struck_out(web, left, v):
    check_place(web[0], v)
    check_places(web[0], left)
    others = [tie for tie in web[1] if v not in tie]
    return (web[0], rising_once(others + pairs_round(web, left, v)))


def filled(web, order):
    check_order(web, order)
    ties = list(web[1])
    now = web
    for k, v in enumerate(order):
        now = struck_out(now, order[k:], v)
        ties.extend(now[1])
    return (web[0], rising_once(ties))


def fill(web, order):
    return [tie for tie in filled(web, order)[1] if tie not in web[1]]
