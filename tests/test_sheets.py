"""Points 17 and 19: sheets, the numbers in them, their webs, and the showing sheet of a web."""

import unittest
from random import Random

from fewfills.errors import NoPlace, NoSheet
from fewfills.sheets import is_sheet, number_at, sheet_of, showing, web_of_sheet
from tests.helpers import (
    RING, Stranger, all_pairs, drawn_sheets_with_orders, drawn_webs_with_orders, nested_lists, numbers_within,
    odd_parts, odd_places, odd_things, sheet_of_square, shape_of, shuffled, square_of, webs_of,
)

ONE, HALF = (1, 1), (-1, 2)
SHEET = (3, (((0, ONE), (2, HALF)), (), ((0, (5, 3)), (1, (2, 1)), (2, ONE))))


def odd_counts():
    return odd_things() + nested_lists() + [-1, 13, 14, 10 ** 5000, (), (3,), [3]]


class Made(unittest.TestCase):
    def test_by_hand(self):
        rows = [[(2, HALF), (0, ONE)], [], [(1, (2, 1)), (2, ONE), (0, (5, 3))]]
        self.assertEqual(sheet_of(3, rows), SHEET)
        self.assertEqual(sheet_of(3, tuple(rows)), SHEET)
        self.assertEqual(sheet_of(3, [tuple(row) for row in rows]), SHEET)
        self.assertEqual(sheet_of(3, (rows[0], (), rows[2])), SHEET)

    def test_without_numbers(self):
        for n in range(13):
            self.assertEqual(sheet_of(n, [[]] * n), (n, ((),) * n))
            self.assertEqual(sheet_of(n, ((),) * n), (n, ((),) * n))

    def test_in_any_order_and_told_again(self):
        source = Random(24)
        for sheet, _ in drawn_sheets_with_orders(each=12, figures=6):
            mixed = [shuffled(source, row) for row in sheet[1]]
            self.assertEqual(sheet_of(sheet[0], mixed), sheet)
            self.assertEqual(sheet_of(sheet[0], tuple(tuple(row) for row in mixed)), sheet)
            self.assertEqual(sheet_of(*sheet), sheet)
            self.assertEqual(sheet_of_square(square_of(sheet)), sheet)

    def test_rising_by_place_alone(self):
        row = [(11, (-9, 1)), (2, ONE), (10, (-10, 1)), (9, (7, 1))]
        wanted = ((2, ONE), (9, (7, 1)), (10, (-10, 1)), (11, (-9, 1)))
        self.assertEqual(sheet_of(12, [row] * 12), (12, (wanted,) * 12))

    def test_tuples_are_told_throughout(self):
        told = sheet_of(2, [[(1, ONE)], [(0, HALF), (1, ONE)]])
        for thing in (told, told[1], told[1][0], told[1][1], told[1][0][0], told[1][0][0][1]):
            self.assertIs(type(thing), tuple)

    def test_great_numbers_are_no_hindrance(self):
        great = (10 ** 600 + 1, 10 ** 600)
        self.assertEqual(sheet_of(1, [[(0, great)]]), (1, (((0, great),),)))


class NotMade(unittest.TestCase):
    def refused(self, n, rows):
        with self.assertRaises(NoSheet):
            sheet_of(n, rows)

    def test_counts(self):
        for n in odd_counts():
            self.refused(n, [])
            self.refused(n, ())
            self.refused(n, [[]] * 3)
        self.refused(13, [[]] * 13)
        self.refused(True, [[]])
        self.refused(False, [])

    def test_rows_of_other_kinds(self):
        for thing in odd_things() + [0, 3, {0: (), 1: (), 2: ()}, "abc"]:
            self.refused(3, thing)
            self.refused(0, thing)

    def test_too_few_and_too_many(self):
        for n in range(13):
            self.refused(n, [[]] * (n + 1))
            self.refused(n, ((),) * (n + 1))
            if n:
                self.refused(n, [[]] * (n - 1))
                self.refused(n, [])

    def test_a_row_of_another_kind(self):
        for thing in odd_things() + [0, 1, {}, {0: ONE}, "", None, Stranger()]:
            for at in range(3):
                rows = [[], (), [(0, ONE)]]
                rows[at] = thing
                self.refused(3, rows)
                self.refused(3, tuple(rows))

    def test_each_part(self):
        for part in odd_parts():
            for row in ([part], (part,), [(1, ONE), part], [part, (2, ONE)]):
                self.refused(3, [[], row, []])
                self.refused(3, (row, (), ()))
        self.refused(3, [[], [], ONE])
        self.refused(3, [[], [], (0, ONE)])

    def test_places_that_are_not_there(self):
        for n in range(1, 13):
            for place in (n, -1):
                self.refused(n, [[(place, ONE)]] + [[]] * (n - 1))

    def test_a_place_twice(self):
        for row in ([(0, ONE), (0, ONE)], [(0, ONE), (1, ONE), (0, HALF)], [(2, HALF), (2, ONE)]):
            self.refused(3, [[], row, []])
            self.refused(3, [tuple(row), [], []])

    def test_nought(self):
        self.refused(3, [[(0, ONE), (1, (0, 1))], [], []])
        self.refused(1, [[(0, (0, 1))]])


class IsSheet(unittest.TestCase):
    def test_sheets(self):
        self.assertIs(is_sheet(SHEET), True)
        for n in range(13):
            self.assertIs(is_sheet((n, ((),) * n)), True)
        for sheet, _ in drawn_sheets_with_orders(each=6, figures=6, empty=0.3):
            self.assertIs(is_sheet(sheet), True)
            self.assertIs(is_sheet(sheet_of(*sheet)), True)

    def test_bent_by_one_thing(self):
        rows = SHEET[1]
        bent = [
            [3, rows], (3, list(rows)), (3,), (3, rows, ()), (3, rows, rows), (rows, 3), (2, rows), (4, rows),
            (True, rows), ("3", rows), (3.0, rows), (None, rows), (3, rows[:2]), (3, rows + ((),)), (3, None),
            (3, "abc"), (3, {}), (3, (list(rows[0]),) + rows[1:]), (3, (rows[0], [], rows[2])),
            (3, (rows[0][::-1],) + rows[1:]), (3, (rows[0] + rows[0],) + rows[1:]),
            (3, (rows[0] + rows[0][-1:],) + rows[1:]), (3, rows[:2] + ((rows[2][1], rows[2][0], rows[2][2]),)),
            (3, (([0, ONE],),) + rows[1:]), (3, ((0, ONE),) + rows[1:]), (3, (((0, [1, 1]),),) + rows[1:]),
            (13, ((),) * 13), (-1, ()), (False, ()), (True, ((),)), (0, []), (0, ((),)),
        ]
        for thing in bent:
            self.assertIs(is_sheet(thing), False, thing)

    def test_bent_at_any_part(self):
        for part in odd_parts():
            for at in range(3):
                row = SHEET[1][2][:at] + (part,) + SHEET[1][2][at + 1:]
                self.assertIs(is_sheet((3, SHEET[1][:2] + (row,))), False)

    def test_rows_and_counts_of_other_kinds(self):
        for thing in odd_things() + nested_lists() + [0, [], [(0, ONE)]]:
            self.assertIs(is_sheet((3, (thing,) + SHEET[1][1:])), False)
            self.assertIs(is_sheet((3, thing)), False)
        for n in odd_counts():
            self.assertIs(is_sheet((n, ((),) * 3)), False)
            self.assertIs(is_sheet((n, ())), False)

    def test_things_of_other_kinds(self):
        for thing in odd_things() + nested_lists() + [0, 3, (), [], ((), ()), (0,), [0, ()], ((0, ()),)]:
            self.assertIs(is_sheet(thing), False)


class NumberAt(unittest.TestCase):
    def test_by_hand(self):
        self.assertEqual(number_at(SHEET, 0, 2), HALF)
        self.assertEqual(number_at(SHEET, 2, 0), (5, 3))
        self.assertEqual(number_at(SHEET, 0, 1), (0, 1))
        self.assertEqual(number_at(SHEET, 1, 1), (0, 1))

    def test_all_of_many_sheets(self):
        for sheet, _ in drawn_sheets_with_orders(each=5, empty=0.3):
            square = square_of(sheet)
            for i in range(sheet[0]):
                for j in range(sheet[0]):
                    wanted = (square[i][j].numerator, square[i][j].denominator)
                    self.assertEqual(number_at(sheet, i, j), wanted)

    def test_what_is_no_place(self):
        sheet = (5, ((),) * 5)
        for thing in odd_places():
            for i, j in ((thing, 0), (0, thing), (thing, thing)):
                with self.assertRaises(NoPlace):
                    number_at(sheet, i, j)
        for thing in (0, -1, None, False):
            with self.assertRaises(NoPlace):
                number_at((0, ()), thing, thing)


class WebOfSheet(unittest.TestCase):
    def test_one_way_the_other_or_both(self):
        self.assertEqual(web_of_sheet(SHEET), (3, ((0, 2), (1, 2))))
        self.assertEqual(web_of_sheet((2, (((1, ONE),), ()))), (2, ((0, 1),)))
        self.assertEqual(web_of_sheet((2, ((), ((0, ONE),)))), (2, ((0, 1),)))
        self.assertEqual(web_of_sheet((2, (((1, ONE),), ((0, HALF),)))), (2, ((0, 1),)))

    def test_alike_places_are_no_tie(self):
        for n in range(13):
            self.assertEqual(web_of_sheet((n, tuple(((v, ONE),) for v in range(n)))), (n, ()))
            self.assertEqual(web_of_sheet((n, ((),) * n)), (n, ()))

    def test_many_sheets(self):
        for sheet, _ in drawn_sheets_with_orders(each=15, empty=0.5):
            self.assertEqual(web_of_sheet(sheet), shape_of(sheet))


class Showing(unittest.TestCase):
    def test_by_hand(self):
        self.assertEqual(showing((0, ())), (0, ()))
        self.assertEqual(showing((1, ())), (1, (((0, (1, 1)),),)))
        self.assertEqual(showing((2, ())), (2, (((0, (2, 1)),), ((1, (2, 1)),))))
        self.assertEqual(showing((3, ((0, 2),))), (3, (
            ((0, (3, 1)), (2, (-1, 1))), ((1, (3, 1)),), ((0, (-1, 1)), (2, (3, 1))),
        )))

    def check(self, web):
        n = web[0]
        square = [[max(n, 1) if i == j else -1 if (min(i, j), max(i, j)) in web[1] else 0 for j in range(n)]
                  for i in range(n)]
        told = showing(web)
        self.assertEqual(told, (n, tuple(tuple((j, (one, 1)) for j, one in enumerate(row) if one) for row in square)))
        self.assertIs(is_sheet(told), True)
        self.assertEqual(web_of_sheet(told), web)
        self.assertEqual({type(end) for end in numbers_within(told)}, {int})

    def test_many_webs(self):
        self.check(RING)
        for n in range(5):
            for web in webs_of(n):
                self.check(web)
        for n in range(13):
            self.check((n, tuple(all_pairs(n))))
        for web, _ in drawn_webs_with_orders(each=10):
            self.check(web)
