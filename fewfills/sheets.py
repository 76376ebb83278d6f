"""Sheets: tuples (n, rows) of how many places there are and which numbers stand in the row of each."""

from fewfills.errors import NoSheet
from fewfills.numbers import NOUGHT, is_number, is_pair
from fewfills.webs import check_place, is_count, is_place, neighbours, rising_once


def is_part(n, thing):
    """Whether the thing is a tuple of a place and of the number there, which isn't nought."""
    return is_pair(thing) and is_place(n, thing[0]) and is_number(thing[1]) and thing[1] != NOUGHT


def are_parts(n, things):
    """Whether the things of a list or tuple are parts, each of another place."""
    if not all([is_part(n, thing) for thing in things]):
        return False
    return len(set([part[0] for part in things])) == len(things)


def is_row(n, thing):
    return isinstance(thing, tuple) and are_parts(n, thing) and list(thing) == sorted(thing)


def sheet_of(n, rows):
    if not is_count(n):
        raise NoSheet("a sheet has from 0 to 12 places")
    if not isinstance(rows, (list, tuple)) or len(rows) != n:
        raise NoSheet("rows are a list or a tuple of one for each place")
    for row in rows:
        if not isinstance(row, (list, tuple)) or not are_parts(n, row):
            raise NoSheet("a row is a list or a tuple of tuples, each of a place and a number")
    return (n, tuple([tuple(sorted(row)) for row in rows]))


def is_sheet(thing):
    if not is_pair(thing) or not is_count(thing[0]) or not isinstance(thing[1], tuple):
        return False
    return len(thing[1]) == thing[0] and all([is_row(thing[0], row) for row in thing[1]])


def number_at(sheet, i, j):
    check_place(sheet[0], i)
    check_place(sheet[0], j)
    return dict(sheet[1][i]).get(j, NOUGHT)


def web_of_sheet(sheet):
    ties = []
    for i, row in enumerate(sheet[1]):
        ties.extend([(i, j) for j, number in row if j != i])
    return (sheet[0], rising_once(ties))


def showing(web):
    # As great as this, the numbers at (v, v) outweigh all others of their rows: none of them comes to nought.
    middle = (web[0], 1)
    rows = []
    for v in range(web[0]):
        rows.append(tuple(sorted([(v, middle)] + [(near, (-1, 1)) for near in neighbours(web, v)])))
    return (web[0], tuple(rows))
