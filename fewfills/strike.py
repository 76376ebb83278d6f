"""Striking out: the work of a sheet by an order, the sheet put back, and right sides answered."""

from fewfills.errors import NoPivot
from fewfills.numbers import NOUGHT, ONE, minus, over, plus, times
from fewfills.webs import check_order


def add_times(row, factor, parts):
    """Adds to a row, kept as a dict of numbers by places, the factor times the parts."""
    for j, number in parts:
        row[j] = plus(row.get(j, NOUGHT), times(factor, number))


def parts_at(row, places):
    """The parts of a row, kept as a dict, at the places where it isn't nought."""
    return tuple([(j, row[j]) for j in places if row.get(j, NOUGHT) != NOUGHT])


def step_of(rows, v, later):
    """The work's tuple of v, by the rows as they are by then; later are the places struck later, rising."""
    pivot = rows[v].get(v, NOUGHT)
    if pivot == NOUGHT:
        raise NoPivot(v)
    column = [(i, over(rows[i][v], pivot)) for i in later if rows[i].get(v, NOUGHT) != NOUGHT]
    return (v, pivot, parts_at(rows[v], later), tuple(column))


def struck_with(sheet, order, known):
    """The work of the sheet by the order; of some places the tuples are known, kept as a dict by places."""
    rows = [dict(row) for row in sheet[1]]
    work = []
    for k, v in enumerate(order):
        step = known[v] if v in known else step_of(rows, v, sorted(order[k + 1:]))
        for i, factor in step[3]:
            # Where the tuple is known nobody asks for the row.
            if i not in known:
                add_times(rows[i], minus(NOUGHT, factor), step[2])
        work.append(step)
    return work


def struck(sheet, order):
    # An order hangs on how many places there are, not on their numbers.
    check_order((sheet[0], ()), order)
    return struck_with(sheet, order, {})


def put_back(n, work):
    rows = [{} for v in range(n)]
    for v, pivot, row, column in work:
        # To each row struck later the row of v gives what was taken off it, and to its own one itself.
        for i, factor in ((v, ONE),) + column:
            add_times(rows[i], factor, ((v, pivot),) + row)
    return (n, tuple([parts_at(row, list(range(n))) for row in rows]))


def solved(n, work, right):
    x = [right[v] for v in range(n)]
    for v, pivot, row, column in work:
        for i, factor in column:
            x[i] = minus(x[i], times(factor, x[v]))
    # Those struck last are known first: the row of v asks for no others.
    for v, pivot, row, column in reversed(work):
        for j, number in row:
            x[v] = minus(x[v], times(number, x[j]))
        x[v] = over(x[v], pivot)
    return x
