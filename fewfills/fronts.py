"""Fronts: the work of each place in a small square of its own, drawn from those of the places below it."""

from fewfills.errors import NoPivot
from fewfills.game import filled
from fewfills.numbers import NOUGHT, minus, over, plus, times
from fewfills.sheets import number_at, web_of_sheet
from fewfills.trees import parents
from fewfills.webs import neighbours


def rest_at(front, x, y):
    """The number at (x, y) of a front's rest; nought where they don't both stand among its places."""
    places = front[0][1:]
    if x not in places or y not in places:
        return NOUGHT
    return front[2][places.index(x)][places.index(y)]


def front_number(sheet, below, v, x, y):
    """The number at (x, y) of the front of v; below are the fronts of the places whose parent is v."""
    total = number_at(sheet, x, y) if v in (x, y) else NOUGHT
    for front in below:
        total = plus(total, rest_at(front, x, y))
    return total


def rest_row(numbers, k):
    """The row k of what is left of a front's numbers behind the first place."""
    factor = over(numbers[k][0], numbers[0][0])
    pairs = list(zip(numbers[k], numbers[0]))
    return [minus(number, times(factor, above)) for number, above in pairs[1:]]


def front_of(sheet, places, below):
    v = places[0]
    numbers = []
    for x in places:
        numbers.append([front_number(sheet, below, v, x, y) for y in places])
    if numbers[0][0] == NOUGHT:
        raise NoPivot(v)
    return (places, numbers, [rest_row(numbers, k) for k in range(1, len(places))])


def fronts(sheet, order):
    web = web_of_sheet(sheet)
    full = filled(web, order)
    tree = parents(web, order)
    told = []
    for k, v in enumerate(order):
        near = neighbours(full, v)
        places = [v] + [place for place in order[k + 1:] if place in near]
        below = [front for front in told if tree[front[0][0]] == v]
        told.append(front_of(sheet, places, below))
    return told
