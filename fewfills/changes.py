"""A row changed: the new sheet, its work, and what of it the change touches."""

from fewfills.errors import NoRow
from fewfills.sheets import is_row, web_of_sheet
from fewfills.strike import struck_with
from fewfills.trees import parents, places_above
from fewfills.webs import check_order, check_place, check_places, neighbours


def touched(web, order, pairs):
    # What is no place is refused ahead of what is no order.
    for pair in pairs:
        check_places(web[0], pair)
    tree = parents(web, order)
    found = []
    for i, j in pairs:
        first = i if order.index(i) < order.index(j) else j
        found.extend([first] + places_above(tree, first))
    return sorted(set(found))


def check_row(sheet, i, row):
    if not is_row(sheet[0], row):
        raise NoRow("a row is a tuple of tuples, each of a place and a number, rising")
    near = neighbours(web_of_sheet(sheet), i)
    if not all([j == i or j in near for j, number in row]):
        raise NoRow("a row has numbers only where its place is tied")


def with_row(sheet, order, i, row):
    """The sheet with another row of the place i, and the touched places."""
    check_row(sheet, i, row)
    was = dict(sheet[1][i])
    now = dict(row)
    pairs = [(i, j) for j in range(sheet[0]) if was.get(j) != now.get(j)]
    rows = list(sheet[1])
    rows[i] = row
    return ((sheet[0], tuple(rows)), touched(web_of_sheet(sheet), order, pairs))


def changed(sheet, order, work, i, row):
    check_place(sheet[0], i)
    check_order((sheet[0], ()), order)
    told = with_row(sheet, order, i, row)
    known = {}
    for step in work:
        if step[0] not in told[1]:
            known[step[0]] = step
    return (told[0], struck_with(told[0], order, known), told[1])
