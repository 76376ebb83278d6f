"""Point 21: the front of each place."""

import unittest
from fractions import Fraction
from random import Random

from fewfills.errors import NoOrder, NoPivot
from fewfills.fronts import fronts
from fewfills.sheets import showing
from fewfills.strike import struck
from tests.helpers import (
    as_number, drawn_sheet, drawn_sheets_with_orders, drawn_webs_with_orders, game_of, nested_lists, numbers_within,
    odd_orders, odd_things, orders_of, parents_by_game, shape_of, square_of, webs_of, work_by_words,
)

ONE = (1, 1)
NOUGHT = (0, 1)


def fronts_by_words(sheet, order):
    """The fronts with fractions, each as dicts by pairs of places; of a sheet that has its pivots."""
    web, square = shape_of(sheet), square_of(sheet)
    met, tree = game_of(web, order)[0], parents_by_game(web, order)
    told, rests = [], {}
    for v in order:
        places = [v] + sorted(met[v], key=order.index)
        numbers = {}
        for x in places:
            for y in places:
                numbers[x, y] = square[x][y] if v in (x, y) else Fraction(0)
                for child in range(web[0]):
                    if tree[child] == v:
                        numbers[x, y] += rests[child].get((x, y), 0)
        rests[v] = {(x, y): numbers[x, y] - numbers[x, v] * numbers[v, y] / numbers[v, v]
                    for x in places[1:] for y in places[1:]}
        told.append((places, by_rows(numbers, places), by_rows(rests[v], places[1:])))
    return told


def by_rows(numbers, places):
    return [[as_number(numbers[x, y]) for y in places] for x in places]


def many_sheets():
    yield from drawn_sheets_with_orders(each=15, seed=37)
    yield from drawn_sheets_with_orders(each=1, figures=6, seed=38)
    yield from drawn_sheets_with_orders(each=8, empty=0.1, seed=39)
    source = Random(40)
    for n in range(5):
        for web in webs_of(n, 3):
            for order in orders_of(n, 5):
                yield drawn_sheet(source, web), order


class Fronts(unittest.TestCase):
    def test_by_hand(self):
        # Row by row: 2 1 0, 4 5 3, 0 -6 1.
        sheet = (3, (((0, (2, 1)), (1, ONE)), ((0, (4, 1)), (1, (5, 1)), (2, (3, 1))), ((1, (-6, 1)), (2, ONE))))
        self.assertEqual(fronts(sheet, [0, 1, 2]), [
            ([0, 1], [[(2, 1), ONE], [(4, 1), NOUGHT]], [[(-2, 1)]]),
            ([1, 2], [[(3, 1), (3, 1)], [(-6, 1), NOUGHT]], [[(6, 1)]]),
            ([2], [[(7, 1)]], []),
        ])
        self.assertEqual(fronts(sheet, [0, 2, 1]), [
            ([0, 1], [[(2, 1), ONE], [(4, 1), NOUGHT]], [[(-2, 1)]]),
            ([2, 1], [[ONE, (-6, 1)], [(3, 1), NOUGHT]], [[(18, 1)]]),
            ([1], [[(21, 1)]], []),
        ])

    def test_few_places(self):
        self.assertEqual(fronts((0, ()), []), [])
        self.assertEqual(fronts((1, (((0, (-3, 4)),),)), [0]), [([0], [[(-3, 4)]], [])])
        self.assertEqual(fronts((2, (((0, ONE),), ((1, (2, 1)),))), [1, 0]),
                         [([1], [[(2, 1)]], []), ([0], [[ONE]], [])])

    def test_a_number_one_way_alone(self):
        self.assertEqual(fronts((2, (((0, ONE),), ((0, (3, 1)), (1, (2, 1))))), [0, 1]), [
            ([0, 1], [[ONE, NOUGHT], [(3, 1), NOUGHT]], [[NOUGHT]]), ([1], [[(2, 1)]], []),
        ])

    def test_by_its_own_words(self):
        told = refused = 0
        for sheet, order in many_sheets():
            work = work_by_words(sheet, order)
            if isinstance(work, list):
                self.assertEqual(fronts(sheet, order), fronts_by_words(sheet, order), (sheet, order))
                told += 1
            else:
                for call in (fronts, struck):
                    with self.assertRaises(NoPivot) as caught:
                        call(sheet, order)
                    self.assertEqual(caught.exception.place, work, (sheet, order))
                refused += 1
        self.assertGreater(told, 300)
        self.assertGreater(refused, 15)

    def test_first_rows_and_columns_against_the_work(self):
        for sheet, order in many_sheets():
            work = work_by_words(sheet, order)
            if not isinstance(work, list):
                continue
            for (v, pivot, row, column), (places, numbers, _) in zip(work, fronts(sheet, order), strict=True):
                row, column, whole = dict(row), dict(column), Fraction(*pivot)
                self.assertEqual(places[0], v)
                self.assertEqual(numbers[0], [pivot] + [row.get(place, NOUGHT) for place in places[1:]])
                down = [Fraction(*column.get(place, NOUGHT)) * whole for place in places[1:]]
                self.assertEqual([line[0] for line in numbers], [pivot] + [as_number(one) for one in down])
                self.assertLessEqual(set(row) | set(column), set(places))

    def test_showing_sheets(self):
        for web, order in drawn_webs_with_orders(each=3):
            sheet = showing(web)
            self.assertEqual(fronts(sheet, order), fronts_by_words(sheet, order))

    def test_kinds_of_what_is_told(self):
        told = fronts(showing((4, ((0, 1), (0, 2), (1, 3)))), [0, 1, 2, 3])
        self.assertIs(type(told), list)
        for front in told:
            self.assertEqual([type(front)] + [type(one) for one in front], [tuple, list, list, list])
            for line in front[1] + front[2]:
                self.assertEqual([type(line)] + [type(one) for one in line], [list] + [tuple] * len(line))
            self.assertEqual([len(front[0])] * (len(front[1]) + 1), [len(front[1])] + [len(one) for one in front[1]])
            self.assertEqual([len(line) for line in front[2]], [len(front[0]) - 1] * (len(front[0]) - 1))
        self.assertEqual({type(end) for end in numbers_within(told)}, {int})

    def test_a_pivot_that_is_nought(self):
        bare = (4, ((),) * 4)
        # 0 1 0, 1 1 2, 0 3 6: nought at (0, 0), and at (2, 2) once 1 is struck out.
        sheet = (3, (((1, ONE),), ((0, ONE), (1, ONE), (2, (2, 1))), ((1, (3, 1)), (2, (6, 1)))))
        for one, order, place in ((bare, [2, 0, 3, 1], 2), (sheet, [0, 1, 2], 0), (sheet, [2, 0, 1], 0),
                                  (sheet, [1, 2, 0], 2), ((1, ((),)), [0], 0)):
            with self.assertRaises(NoPivot) as caught:
                fronts(one, order)
            self.assertEqual(caught.exception.place, place)

    def test_what_is_no_order(self):
        for sheet in ((5, tuple(((v, ONE),) for v in range(5))), (5, ((),) * 5)):
            for thing in odd_orders():
                with self.assertRaises(NoOrder):
                    fronts(sheet, thing)
        for thing in odd_things() + nested_lists() + [(), [0]]:
            with self.assertRaises(NoOrder):
                fronts((0, ()), thing)
