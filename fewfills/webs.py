"""Webs: tuples (n, ties) of how many places there are and which of them are tied."""

from fewfills.errors import NoOrder, NoPlace, NoWeb
from fewfills.numbers import is_pair, is_whole

MOST_PLACES = 12


def is_count(thing):
    return is_whole(thing) and 0 <= thing <= MOST_PLACES


def is_place(n, thing):
    return is_whole(thing) and 0 <= thing < n


def check_place(n, thing):
    if not is_place(n, thing):
        raise NoPlace("this is no place")


def check_places(n, things):
    for thing in things:
        check_place(n, thing)


def is_tie(n, thing):
    """Whether the thing is a tuple of two unlike places, in either order."""
    if not is_pair(thing):
        return False
    # Places are asked for first: things of other kinds may not even be compared.
    return is_place(n, thing[0]) and is_place(n, thing[1]) and thing[0] != thing[1]


def are_ties(n, things):
    return all([is_tie(n, thing) for thing in things])


def rising_once(pairs):
    """The pairs as a web has its ties: the lesser place first, rising, each once."""
    return tuple(sorted(set([(min(pair), max(pair)) for pair in pairs])))


def web_of(n, ties):
    if not is_count(n):
        raise NoWeb("a web has from 0 to 12 places")
    if not isinstance(ties, (list, tuple)):
        raise NoWeb("ties are a list or a tuple")
    if not are_ties(n, ties):
        raise NoWeb("a tie is a tuple of two unlike places")
    return (n, rising_once(ties))


def is_web(thing):
    if not is_pair(thing) or not is_count(thing[0]) or not isinstance(thing[1], tuple):
        return False
    return are_ties(thing[0], thing[1]) and thing[1] == rising_once(thing[1])


def neighbours(web, v):
    check_place(web[0], v)
    # Ties rise, so both parts do, and all below v come ahead of all above it.
    below = [a for a, b in web[1] if b == v]
    above = [b for a, b in web[1] if a == v]
    return below + above


def is_order(web, thing):
    if not isinstance(thing, list):
        return False
    if not all([is_place(web[0], place) for place in thing]):
        return False
    return sorted(thing) == list(range(web[0]))


def check_order(web, thing):
    if not is_order(web, thing):
        raise NoOrder("an order is a list with each place once")
