"""Point 24: a row changed, and what it touches."""

import unittest
from random import Random

from fewfills.changes import changed, touched
from fewfills.errors import NoOrder, NoPivot, NoPlace, NoRow
from fewfills.sheets import showing
from fewfills.strike import struck
from tests.helpers import (
    NOUGHT, ONE, RING, drawn_number, drawn_sheets_with_orders, drawn_webs_with_orders, nested_lists, odd_orders,
    odd_parts, odd_places, odd_things, shape_of, shuffled, tied_by_ways, webs_with_orders, work_by_words,
)

# A line 0 - 1 - 2 - 3 and a pair 4 - 5 apart from it.
LINE = (6, ((0, 1), (1, 2), (2, 3), (4, 5)))
# Row by row: 2 1 0, 4 5 3, 0 -6 1.
SHEET = (3, (((0, (2, 1)), (1, ONE)), ((0, (4, 1)), (1, (5, 1)), (2, (3, 1))), ((1, (-6, 1)), (2, ONE))))
ORDER = [0, 1, 2]


def parents_by_ways(web, order):
    """The parents, from the pairs between which ways lead through places struck ahead of both."""
    told = [None] * web[0]
    for pair in tied_by_ways(web, order):
        first, later = sorted(pair, key=order.index)
        if told[first] is None or order.index(later) < order.index(told[first]):
            told[first] = later
    return told


def touched_by_words(web, order, pairs):
    tree, found = parents_by_ways(web, order), set()
    for pair in pairs:
        here = min(pair, key=order.index)
        while here is not None:
            found.add(here)
            here = tree[here]
    return sorted(found)


def drawn_row(source, sheet, i):
    """A row that may stand in the sheet at i: some numbers are kept, some others, some gone."""
    now, near = dict(sheet[1][i]), [pair for pair in shape_of(sheet)[1] if i in pair]
    for j in sorted({i}.union(*near)):
        chance = source.random()
        if chance < 0.3:
            now[j] = drawn_number(source)
        elif chance < 0.4:
            now.pop(j, None)
    return tuple(sorted(now.items()))


def differing(sheet, i, row):
    was, now = dict(sheet[1][i]), dict(row)
    return [(i, j) for j in range(sheet[0]) if was.get(j, NOUGHT) != now.get(j, NOUGHT)]


class Touched(unittest.TestCase):
    def test_by_hand(self):
        order = [0, 1, 2, 3, 4, 5]
        self.assertEqual(touched(LINE, order, [(1, 2)]), [1, 2, 3])
        self.assertEqual(touched(LINE, order, [(2, 1)]), [1, 2, 3])
        self.assertEqual(touched(LINE, order, [(2, 2)]), [2, 3])
        self.assertEqual(touched(LINE, order, [(5, 5)]), [5])
        self.assertEqual(touched(LINE, order, [(5, 4), (3, 2)]), [2, 3, 4, 5])
        self.assertEqual(touched(LINE, [5, 3, 0, 4, 2, 1], [(2, 3)]), [1, 2, 3])
        self.assertEqual(touched(LINE, [5, 3, 0, 4, 2, 1], [(4, 5)]), [4, 5])
        self.assertEqual(touched(LINE, [5, 3, 0, 4, 2, 1], [(0, 1), (0, 1), (0, 0)]), [0, 1])

    def test_nothing(self):
        self.assertEqual(touched(LINE, [0, 1, 2, 3, 4, 5], []), [])
        self.assertEqual(touched((0, ()), [], []), [])

    def test_against_parents_found_by_ways(self):
        source = Random(52)
        for web, order in list(webs_with_orders())[::7] + list(drawn_webs_with_orders(each=12)):
            pairs = list(web[1]) + [(b, a) for a, b in web[1]] + [(v, v) for v in range(web[0])]
            for count in (1, 2, 5):
                some = source.sample(pairs, min(count, len(pairs)))
                told = touched(web, order, some)
                self.assertEqual(told, touched_by_words(web, order, some), (web, order, some))
                self.assertIs(type(told), list)

    def test_what_is_no_place_goes_ahead_of_what_is_no_order(self):
        for thing in odd_places():
            for order in ([0, 1, 2, 3, 4], [0, 1], None):
                for pair in ((thing, 0), (0, thing), (thing, thing)):
                    with self.assertRaises(NoPlace):
                        touched(RING, order, [pair])
                    with self.assertRaises(NoPlace):
                        touched(RING, order, [(0, 1), pair])

    def test_what_is_no_order(self):
        for thing in odd_orders():
            for pairs in ([], [(0, 1)]):
                with self.assertRaises(NoOrder):
                    touched(RING, thing, pairs)


class Changed(unittest.TestCase):
    def test_by_hand(self):
        work = struck(SHEET, ORDER)
        row = ((0, (4, 1)), (1, (5, 1)))
        new = (3, (SHEET[1][0], row, SHEET[1][2]))
        self.assertEqual(changed(SHEET, ORDER, work, 1, row), (new, [
            (0, (2, 1), ((1, ONE),), ((1, (2, 1)),)), (1, (3, 1), (), ((2, (-2, 1)),)), (2, ONE, (), ()),
        ], [1, 2]))
        row = ((1, (-6, 1)), (2, (2, 1)))
        self.assertEqual(changed(SHEET, ORDER, work, 2, row),
                         ((3, SHEET[1][:2] + (row,)), work[:2] + [(2, (8, 1), (), ())], [2]))

    def test_a_number_at_a_place_struck_ahead(self):
        told = changed(SHEET, ORDER, struck(SHEET, ORDER), 1, ((0, (6, 1)), (1, (5, 1)), (2, (3, 1))))
        self.assertEqual(told[2], [0, 1, 2])
        self.assertEqual(told[1][0], (0, (2, 1), ((1, ONE),), ((1, (3, 1)),)))

    def test_a_number_where_one_stood_the_other_way_alone(self):
        sheet = (2, (((0, ONE), (1, ONE)), ((1, ONE),)))
        new = (2, (sheet[1][0], ((0, (2, 1)), (1, ONE))))
        self.assertEqual(changed(sheet, [0, 1], struck(sheet, [0, 1]), 1, new[1][1]),
                         (new, [(0, ONE, ((1, ONE),), ((1, (2, 1)),)), (1, (-1, 1), (), ())], [0, 1]))

    def test_the_very_same_row(self):
        for sheet, order in drawn_sheets_with_orders(each=4, seed=53):
            work = work_by_words(sheet, order)
            if isinstance(work, list):
                for i in range(sheet[0]):
                    self.assertEqual(changed(sheet, order, work, i, sheet[1][i]), (sheet, work, []))

    def test_many(self):
        source = Random(54)
        told = refused = kept = 0
        for sheet, order in drawn_sheets_with_orders(each=14, seed=55):
            work = work_by_words(sheet, order)
            if not isinstance(work, list) or not order:
                continue
            for _ in range(3):
                i = source.choice(order)
                row = drawn_row(source, sheet, i)
                new = (sheet[0], sheet[1][:i] + (row,) + sheet[1][i + 1:])
                wanted = work_by_words(new, order)
                if isinstance(wanted, list):
                    marked = touched_by_words(shape_of(sheet), order, differing(sheet, i, row))
                    self.assertEqual(changed(sheet, order, work, i, row), (new, wanted, marked), (sheet, order, i, row))
                    # Of the words: all tuples but those of touched places are those that they were.
                    self.assertEqual([step for step in wanted if step[0] not in marked],
                                     [step for step in work if step[0] not in marked])
                    told += 1
                    kept += sheet[0] - len(marked)
                else:
                    with self.assertRaises(NoPivot) as caught:
                        changed(sheet, order, work, i, row)
                    self.assertEqual(caught.exception.place, wanted)
                    refused += 1
        self.assertGreater(told, 200)
        self.assertGreater(kept, 500)
        self.assertGreater(refused, 10)

    def test_one_change_behind_another(self):
        source = Random(56)
        for web, order in drawn_webs_with_orders(each=3):
            sheet, work = showing(web), struck(showing(web), order)
            for i in shuffled(source, order):
                try:
                    sheet, work, _ = changed(sheet, order, work, i, drawn_row(source, sheet, i))
                except NoPivot:
                    continue
                self.assertEqual(work, work_by_words(sheet, order))

    def test_kinds_of_what_is_told(self):
        told = changed(SHEET, ORDER, struck(SHEET, ORDER), 1, ((1, ONE),))
        self.assertEqual([type(told)] + [type(one) for one in told], [tuple, tuple, list, list])
        self.assertEqual([type(one) for one in told[1]], [tuple] * 3)


class Refused(unittest.TestCase):
    def setUp(self):
        self.sheet = (5, tuple(((v, (2, 1)),) for v in range(5)))
        self.order = [0, 1, 2, 3, 4]
        self.work = struck(self.sheet, self.order)

    def test_what_is_no_place_goes_first(self):
        for i in odd_places():
            for order in (self.order, [0, 1], None):
                for row in ((), ((0, ONE),), None, [[]], ((i, ONE),)):
                    with self.assertRaises(NoPlace):
                        changed(self.sheet, order, self.work, i, row)
        for i in (0, -1, None):
            with self.assertRaises(NoPlace):
                changed((0, ()), [], [], i, ())

    def test_then_what_is_no_order(self):
        for order in odd_orders():
            for row in (((0, ONE),), (), None, [(0, ONE)], ((1, ONE),)):
                with self.assertRaises(NoOrder):
                    changed(self.sheet, order, self.work, 0, row)

    def refused(self, i, row):
        with self.assertRaises(NoRow):
            changed(SHEET, ORDER, struck(SHEET, ORDER), i, row)

    def test_what_is_no_tuple(self):
        for thing in odd_things() + nested_lists() + [0, [], [(0, ONE)], list(SHEET[1][0]), dict(SHEET[1][0])]:
            for i in range(3):
                self.refused(i, thing)

    def test_what_is_no_part(self):
        for part in odd_parts():
            for i in range(3):
                for row in ((part,), ((1, ONE), part), (part, (2, ONE))):
                    self.refused(i, row)

    def test_not_rising_or_twice(self):
        for row in (((1, ONE), (0, ONE)), ((0, ONE), (2, ONE), (1, ONE)), ((0, ONE), (0, ONE)),
                    ((0, ONE), (1, ONE), (1, (2, 1)))):
            self.refused(1, row)

    def test_nought(self):
        self.refused(1, ((0, NOUGHT),))
        self.refused(1, ((0, ONE), (1, NOUGHT), (2, ONE)))

    def test_a_number_at_a_place_that_is_not_tied(self):
        self.refused(0, ((2, ONE),))
        self.refused(0, ((0, (2, 1)), (1, ONE), (2, ONE)))
        self.refused(2, ((0, ONE), (1, ONE)))
        # Tied in the filled web is not tied.
        star = showing((3, ((0, 1), (0, 2))))
        with self.assertRaises(NoRow):
            changed(star, ORDER, struck(star, ORDER), 1, ((1, ONE), (2, ONE)))

    def test_a_tie_that_is_gone_does_not_come_again(self):
        sheet = (2, (((0, ONE), (1, ONE)), ((1, ONE),)))
        told = changed(sheet, [0, 1], struck(sheet, [0, 1]), 0, ((0, ONE),))
        self.assertEqual(told[2], [0, 1])
        with self.assertRaises(NoRow):
            changed(told[0], [0, 1], told[1], 0, ((0, ONE), (1, ONE)))

    def test_no_row_goes_ahead_of_no_pivot(self):
        self.refused(0, ((2, ONE),))
        self.refused(1, ((0, ONE), (1, NOUGHT)))
        self.refused(0, [])

    def test_no_pivot_with_its_place(self):
        for i, row, place in ((0, (), 0), (0, ((1, ONE),), 0), (1, (), 1), (1, ((0, (4, 1)), (1, (2, 1))), 1),
                              (2, ((1, (-6, 1)), (2, (-6, 1))), 2), (2, (), 2)):
            with self.assertRaises(NoPivot) as caught:
                changed(SHEET, ORDER, struck(SHEET, ORDER), i, row)
            self.assertEqual(caught.exception.place, place)
