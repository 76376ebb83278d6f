"""Parting: the pieces of a web without some places, their shores, and the pairs that may come."""

from fewfills.chords import shortest_way
from fewfills.errors import NoParting
from fewfills.game import pairs_among
from fewfills.webs import check_places, neighbours, rising_once


def check_parting(web, some):
    if not isinstance(some, list):
        raise NoParting("a parting is a list of places")
    # Places are asked for first: things of other kinds may not even be compared.
    check_places(web[0], some)
    if len(set(some)) != len(some):
        raise NoParting("a parting has each of its places once")


def pieces(web, some):
    check_parting(web, some)
    found = []
    left = [place for place in range(web[0]) if place not in some]
    while left:
        # What lies in pieces found ahead can't be on the way, so it need not be gone through again.
        piece = [place for place in left if shortest_way(web, left, left[0], place) is not None]
        found.append(piece)
        left = [place for place in left if place not in piece]
    return found


def shore_of(web, some, piece):
    return [place for place in sorted(some) if any([near in piece for near in neighbours(web, place)])]


def shores(web, some):
    return [shore_of(web, some, piece) for piece in pieces(web, some)]


def may_come(web, some):
    check_parting(web, some)
    pairs = pairs_among(some)
    for piece in pieces(web, some):
        pairs.extend(pairs_among(piece + shore_of(web, some, piece)))
    return [pair for pair in rising_once(pairs) if pair not in web[1]]
