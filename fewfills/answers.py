"""Rows answered: the only answer, a mix which shows that there is none, or ways that span all answers."""

from fewfills.numbers import NOUGHT, ONE, greatest_shared, minus, number_of


def comes_to(pairs, wanted):
    """Whether the products of the pairs of numbers come together to the wanted number."""
    top = 0
    bottom = 1
    for a, b in pairs:
        # Left as they are: lowest terms would take long to find, and comparing needs none.
        top = top * a[1] * b[1] + a[0] * b[0] * bottom
        bottom = bottom * a[1] * b[1]
    return top * wanted[1] == wanted[0] * bottom


def part_pairs(parts, x):
    return [(number, x[j]) for j, number in parts]


def mixed_at(rows, mix, place):
    """For each row its number at the place, with its number of the mix."""
    return [(dict(row[0]).get(place, NOUGHT), number) for row, number in zip(rows, mix)]


def is_answer(rows, x):
    return all([comes_to(part_pairs(parts, x), right) for parts, right in rows])


def is_way(rows, way):
    return all([comes_to(part_pairs(parts, way), NOUGHT) for parts, right in rows])


def is_mix(n, rows, mix):
    rights = [(row[1], number) for row, number in zip(rows, mix)]
    return comes_to(rights, ONE) and all([comes_to(mixed_at(rows, mix, j), NOUGHT) for j in range(n)])


def holds(n, rows, free, place, mix):
    others = [j for j in range(n) if j != place and j not in free]
    if not all([comes_to(mixed_at(rows, mix, j), NOUGHT) for j in others]):
        return False
    return comes_to(mixed_at(rows, mix, place), ONE)


def shared_bottom(numbers):
    """The least whole number above 0 by which all the numbers become whole."""
    bottom = 1
    for number in numbers:
        bottom = bottom * number[1] // greatest_shared(bottom, number[1])
    return bottom


def whole_row(n, rows, k):
    """The row k times what makes it whole: its numbers by places, its right side, and how often each row is in it."""
    parts = dict(rows[k][0])
    numbers = [parts.get(j, NOUGHT) for j in range(n)] + [rows[k][1]]
    often = shared_bottom(numbers)
    marks = [often if m == k else 0 for m in range(len(rows))]
    return [number[0] * (often // number[1]) for number in numbers] + marks


def cleared(row, chosen, place, before):
    """A whole row that is nought at the place: some times itself less some times the chosen row."""
    # What is divided by is the number chosen at the place before; it goes in without rest, and keeps numbers small.
    return [(chosen[place] * one - row[place] * other) // before for one, other in zip(row, chosen)]


def reduced(n, rows):
    """The whole rows that tell of a place each, by places, rising; and those that are left, nought at all places."""
    held = {}
    left = [whole_row(n, rows, k) for k in range(len(rows))]
    before = 1
    for place in range(n):
        fit = [k for k, row in enumerate(left) if row[place] != 0]
        if fit:
            chosen = left.pop(fit[0])
            left = [cleared(row, chosen, place, before) for row in left]
            for other in list(held):
                held[other] = cleared(held[other], chosen, place, before)
            held[place] = chosen
            before = chosen[place]
    return (held, left)


def all_over(wholes, bottom):
    return [number_of(whole, bottom) for whole in wholes]


def value_at(held, place, column):
    """By the row that tells of the place, the number at the column; nought where no row does."""
    if place not in held:
        return NOUGHT
    return number_of(held[place][column], held[place][place])


def way_along(n, held, free):
    way = [minus(NOUGHT, value_at(held, place, free)) for place in range(n)]
    way[free] = ONE
    return way


def answer(n, rows):
    told = reduced(n, rows)
    held = told[0]
    for row in told[1]:
        if row[n] != 0:
            return ("none", all_over(row[n + 1:], row[n]))
    x = [value_at(held, place, n) for place in range(n)]
    mixes = [all_over(row[n + 1:], row[place]) for place, row in held.items()]
    ways = [(free, way_along(n, held, free)) for free in range(n) if free not in held]
    if ways:
        return ("many", x, ways, mixes)
    return ("one", x, mixes)
