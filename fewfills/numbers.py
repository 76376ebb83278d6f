"""Exact numbers: tuples (top, bottom) in lowest terms, bottom from 1 on."""

from fewfills.errors import NoNumber

NOUGHT = (0, 1)
ONE = (1, 1)


def is_whole(thing):
    # Python counts truths among its whole numbers; the program does not.
    return isinstance(thing, int) and not isinstance(thing, bool)


def is_pair(thing):
    return isinstance(thing, tuple) and len(thing) == 2


def greatest_shared(a, b):
    """The greatest whole number that divides both, of two from 0 on, not both 0."""
    while b != 0:
        rest = a % b
        a = b
        b = rest
    return a


def number_of(top, bottom):
    if not is_whole(top) or not is_whole(bottom):
        raise NoNumber("a number is made of two whole numbers")
    if bottom == 0:
        raise NoNumber("nothing is told over nought")
    shared = greatest_shared(abs(top), abs(bottom))
    if bottom < 0:
        # The sign goes to the top, so that equal numbers are equal tuples.
        shared = -shared
    return (top // shared, bottom // shared)


def is_number(thing):
    if not is_pair(thing) or not is_whole(thing[0]) or not is_whole(thing[1]):
        return False
    return thing[1] >= 1 and greatest_shared(abs(thing[0]), thing[1]) == 1


def plus(a, b):
    return number_of(a[0] * b[1] + b[0] * a[1], a[1] * b[1])


def minus(a, b):
    return number_of(a[0] * b[1] - b[0] * a[1], a[1] * b[1])


def times(a, b):
    return number_of(a[0] * b[0], a[1] * b[1])


def over(a, b):
    return number_of(a[0] * b[1], a[1] * b[0])


def is_less(a, b):
    # Bottoms are above 0, so the products compare as the numbers do.
    return a[0] * b[1] < b[0] * a[1]
