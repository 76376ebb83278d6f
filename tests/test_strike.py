"""Points 18 to 20: sheets struck out, what comes where, the sheet put back, and right sides answered."""

import unittest
from fractions import Fraction
from random import Random

from fewfills.errors import NoOrder, NoPivot
from fewfills.sheets import showing
from fewfills.strike import put_back, solved, struck
from tests.helpers import (
    RING, all_pairs, as_number, drawn_number, drawn_sheet, drawn_sheets_with_orders, drawn_webs_with_orders, game_of,
    great_webs_with_orders, nested_lists, numbers_within, odd_orders, odd_things, orders_keeping, orders_of,
    parents_by_game, shape_of, shuffled, square_of, tied_by_ways, webs_of, webs_with_orders, work_by_words,
)

ONE = (1, 1)
# Row by row: 2 1 0, 4 5 3, 0 -6 1.
SHEET = (3, (((0, (2, 1)), (1, ONE)), ((0, (4, 1)), (1, (5, 1)), (2, (3, 1))), ((1, (-6, 1)), (2, ONE))))
WORK = [(0, (2, 1), ((1, ONE),), ((1, (2, 1)),)), (1, (3, 1), ((2, (3, 1)),), ((2, (-2, 1)),)), (2, (7, 1), (), ())]
# Nought stands at (0, 0), and at (2, 2) once 1 is struck out: 0 1 0, 1 1 2, 0 3 6.
NOUGHTS = (3, (((1, ONE),), ((0, ONE), (1, ONE), (2, (2, 1))), ((1, (3, 1)), (2, (6, 1)))))


def many_sheets():
    """Sheets with orders: small numbers, great ones, and sheets with noughts to strike by."""
    yield from drawn_sheets_with_orders(each=20)
    yield from drawn_sheets_with_orders(each=2, figures=6, seed=25)
    yield from drawn_sheets_with_orders(each=20, empty=0.1, seed=26)
    source = Random(27)
    for n in range(1, 13):
        for _ in range(6):
            # Numbers so small that they often cancel one another.
            web = (n, tuple(pair for pair in all_pairs(n) if source.random() < 0.5))
            rows = [[(v, ONE)] for v in range(n)]
            for a, b in web[1]:
                rows[a].append((b, (source.choice((-1, 1)), 1)))
                rows[b].append((a, (source.choice((-1, 1)), 1)))
            yield (n, tuple(tuple(sorted(row)) for row in rows)), shuffled(source, range(n))


def comes_to(sheet, x, right):
    square = square_of(sheet)
    for i in range(sheet[0]):
        if sum(one * Fraction(*number) for one, number in zip(square[i], x)) != Fraction(*right[i]):
            return False
    return True


class Struck(unittest.TestCase):
    def test_by_hand(self):
        self.assertEqual(struck(SHEET, [0, 1, 2]), WORK)
        self.assertEqual(struck(SHEET, [1, 2, 0]), [
            (1, (5, 1), ((0, (4, 1)), (2, (3, 1))), ((0, (1, 5)), (2, (-6, 5)))),
            (2, (23, 5), ((0, (24, 5)),), ((0, (-3, 23)),)),
            (0, (42, 23), (), ()),
        ])
        self.assertEqual(struck((0, ()), []), [])
        self.assertEqual(struck((1, (((0, (-3, 4)),),)), [0]), [(0, (-3, 4), (), ())])

    def test_numbers_that_come_to_nought_are_not_told(self):
        # 1 1 1, 1 2 1, 1 1 3: once 0 is struck out nothing is left at (1, 2) and (2, 1).
        rows = (((0, ONE), (1, ONE), (2, ONE)), ((0, ONE), (1, (2, 1)), (2, ONE)), ((0, ONE), (1, ONE), (2, (3, 1))))
        self.assertEqual(struck((3, rows), [0, 1, 2]), [
            (0, ONE, ((1, ONE), (2, ONE)), ((1, ONE), (2, ONE))), (1, ONE, (), ()), (2, (2, 1), (), ()),
        ])

    def test_number_by_number(self):
        told = refused = 0
        for sheet, order in many_sheets():
            wanted = work_by_words(sheet, order)
            if isinstance(wanted, list):
                self.assertEqual(struck(sheet, order), wanted, (sheet, order))
                told += 1
            else:
                with self.assertRaises(NoPivot) as caught:
                    struck(sheet, order)
                self.assertEqual(caught.exception.place, wanted, (sheet, order))
                refused += 1
        self.assertGreater(told, 300)
        self.assertGreater(refused, 50)

    def test_kinds_of_what_is_told(self):
        told = struck(SHEET, [1, 2, 0])
        self.assertIs(type(told), list)
        for step in told:
            self.assertEqual([type(one) for one in step], [int, tuple, tuple, tuple])
            for part in step[2] + step[3]:
                self.assertEqual([type(part), type(part[0]), type(part[1])], [tuple, int, tuple])
        self.assertEqual({type(end) for end in numbers_within(told)}, {int})

    def test_a_pivot_that_is_nought(self):
        for sheet, order, place in (
            (NOUGHTS, [0, 1, 2], 0), (NOUGHTS, [2, 0, 1], 0), (NOUGHTS, [1, 2, 0], 2), (NOUGHTS, [2, 1, 0], 1),
            ((1, ((),)), [0], 0), ((4, ((),) * 4), [2, 0, 3, 1], 2),
            ((2, (((0, ONE), (1, ONE)), ((0, ONE), (1, ONE)))), [1, 0], 0),
            ((3, (((0, ONE),), (), ())), [0, 2, 1], 2),
        ):
            with self.assertRaises(NoPivot) as caught:
                struck(sheet, order)
            self.assertEqual(caught.exception.place, place, (sheet, order))
            self.assertEqual(work_by_words(sheet, order), place)

    def test_a_nought_that_is_filled_ahead_of_its_turn_is_no_hindrance(self):
        self.assertEqual([step[:2] for step in struck(NOUGHTS, [1, 0, 2])], [(1, ONE), (0, (-1, 1)), (2, (6, 1))])

    def test_what_is_no_order(self):
        for sheet in ((5, tuple(((v, ONE),) for v in range(5))), (5, ((),) * 5)):
            for thing in odd_orders():
                with self.assertRaises(NoOrder):
                    struck(sheet, thing)
        for thing in odd_things() + nested_lists() + [(), [0]]:
            with self.assertRaises(NoOrder):
                struck((0, ()), thing)


class Shape(unittest.TestCase):
    """Point 19, and of the whole: the filled web holds all that comes, and all of it comes in the showing sheet."""

    def test_at_whatever_numbers_only_what_is_tied_comes(self):
        for sheet, order in many_sheets():
            if not isinstance(work_by_words(sheet, order), list):
                continue
            ties = tied_by_ways(shape_of(sheet), order)
            for k, (v, _, row, column) in enumerate(struck(sheet, order)):
                for place, _ in row + column:
                    self.assertIn((min(v, place), max(v, place)), ties)
                    self.assertIn(place, order[k + 1:])

    def check_showing(self, web, order):
        met, _ = game_of(web, order)
        for v, pivot, row, column in struck(showing(web), order):
            self.assertEqual([place for place, _ in row], sorted(met[v]), (web, order))
            self.assertEqual([place for place, _ in column], sorted(met[v]), (web, order))
            self.assertGreater(pivot[0], 0)
            self.assertTrue(all(number[0] < 0 for _, number in row + column))

    def test_the_showing_sheet_of_small_webs(self):
        for web, order in list(webs_with_orders())[::4]:
            self.check_showing(web, order)

    def test_the_showing_sheet_of_great_webs(self):
        source = Random(28)
        for web, order in drawn_webs_with_orders(each=5):
            for _ in range(3):
                self.check_showing(web, order)
                order = shuffled(source, order)
        for web, order in list(great_webs_with_orders())[::3]:
            self.check_showing(web, order)
        for n in range(13):
            self.check_showing((n, tuple(all_pairs(n))), list(range(n)))
            self.check_showing((n, ()), list(range(n)))


class PutBack(unittest.TestCase):
    def test_by_hand(self):
        self.assertEqual(put_back(3, WORK), SHEET)
        self.assertEqual(put_back(0, []), (0, ()))
        self.assertEqual(put_back(2, [(1, ONE, (), ((0, ONE),)), (0, ONE, (), ())]),
                         (2, (((0, ONE), (1, ONE)), ((1, ONE),))))

    def test_what_is_struck_out_gives_the_sheet_back(self):
        put = 0
        for sheet, order in many_sheets():
            work = work_by_words(sheet, order)
            if isinstance(work, list):
                self.assertEqual(put_back(sheet[0], work), sheet, order)
                self.assertEqual(put_back(sheet[0], struck(sheet, order)), sheet, order)
                put += 1
        self.assertGreater(put, 300)

    def test_showing_sheets(self):
        for web, order in drawn_webs_with_orders(each=4):
            told = put_back(web[0], struck(showing(web), order))
            self.assertEqual(told, showing(web))
            self.assertEqual({type(end) for end in numbers_within(told)}, {int})


class Solved(unittest.TestCase):
    def test_by_hand(self):
        # x = 1, 2, 3 by hand.
        self.assertEqual(solved(3, WORK, [(4, 1), (23, 1), (-9, 1)]), [(1, 1), (2, 1), (3, 1)])
        self.assertEqual(solved(3, WORK, [(0, 1)] * 3), [(0, 1)] * 3)
        self.assertEqual(solved(0, [], []), [])
        self.assertEqual(solved(1, [(0, (-3, 4), (), ())], [(1, 2)]), [(-2, 3)])

    def test_each_row_comes_to_its_right_side(self):
        source = Random(29)
        for sheet, order in many_sheets():
            work = work_by_words(sheet, order)
            if isinstance(work, list):
                right = [drawn_number(source, 6) if source.random() < 0.8 else (0, 1) for _ in order]
                told = solved(sheet[0], work, right)
                self.assertTrue(comes_to(sheet, told, right), (sheet, order, right))
                self.assertEqual(told, [as_number(Fraction(*number)) for number in told])
                self.assertIs(type(told), list)

    def test_the_answer_from_which_the_right_sides_were_made(self):
        source = Random(30)
        for sheet, order in drawn_sheets_with_orders(each=3, seed=31):
            x = [drawn_number(source, 3) for _ in order]
            right = []
            for row in square_of(sheet):
                right.append(as_number(sum((a * Fraction(*b) for a, b in zip(row, x)), Fraction(0))))
            if isinstance(work_by_words(sheet, order), list):
                self.assertEqual(solved(sheet[0], struck(sheet, order), right), x)

    def test_by_every_order_that_has_its_pivots_the_same(self):
        source = Random(32)
        unlike = 0
        for n in range(5):
            for web in webs_of(n):
                sheet = drawn_sheet(source, web, empty=0.2)
                right = [drawn_number(source) for _ in range(n)]
                works = [work_by_words(sheet, order) for order in orders_of(n)]
                answers = [solved(n, work, right) for work in works if isinstance(work, list)]
                self.assertEqual([one for one in answers if one != answers[0]], [], (sheet, right))
                unlike += len(answers) > 1
        self.assertGreater(unlike, 20)
        for sheet, order in drawn_sheets_with_orders(each=2, seed=33):
            right = [drawn_number(source) for _ in order]
            works = [work_by_words(sheet, shuffled(source, order)) for _ in range(4)]
            answers = [solved(sheet[0], work, right) for work in works if isinstance(work, list)]
            self.assertEqual([one for one in answers if one != answers[0]], [], (sheet, right))


class TheVerySame(unittest.TestCase):
    """Orders that keep the parents of another one that has its pivots."""

    def test_all_orders_of_small_sheets(self):
        source = Random(34)
        for n in range(1, 5):
            for web in webs_of(n, 5):
                sheet = drawn_sheet(source, web)
                for order in orders_of(n, 5):
                    tree, work = parents_by_game(shape_of(sheet), order), work_by_words(sheet, order)
                    if isinstance(work, list):
                        for other in orders_of(n):
                            if all(tree[v] not in other[:k] for k, v in enumerate(other)):
                                self.check(sheet, other, work)

    def check(self, sheet, other, work):
        told = struck(sheet, other)
        self.assertEqual([step[0] for step in told], other)
        self.assertEqual(sorted(told), sorted(work), (sheet, other))

    def test_great_sheets(self):
        source = Random(35)
        unlike = 0
        for sheet, order in drawn_sheets_with_orders(each=8, seed=36):
            work = work_by_words(sheet, order)
            if isinstance(work, list):
                for other in orders_keeping(source, parents_by_game(shape_of(sheet), order), 3):
                    self.check(sheet, other, work)
                    unlike += other != order
        self.assertGreater(unlike, 100)

    def test_by_hand(self):
        rows = tuple(((v, (3, 1)), (4, ONE)) for v in range(4)) + (tuple((v, ONE) for v in range(5)),)
        work = struck((5, rows), [0, 1, 2, 3, 4])
        self.assertEqual(struck((5, rows), [3, 1, 0, 2, 4]), [work[k] for k in (3, 1, 0, 2, 4)])
        self.assertEqual(work[4], (4, (-1, 3), (), ()))
        self.assertEqual(parents_by_game(RING, [0, 1, 2, 3, 4]), [1, 2, 3, 4, None])
