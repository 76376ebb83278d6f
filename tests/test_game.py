"""Points 6 and 7: places struck out, the fill, and the filled web found by ways alone."""

import unittest

from fewfills.errors import NoOrder, NoPlace
from fewfills.game import fill, filled, struck_out
from fewfills.webs import is_web
from tests.helpers import (
    RING, both_ways, great_webs_with_orders, nested_lists, odd_orders, odd_places, odd_things, orders_of, tied_by_ways,
    ties_of, webs_of, webs_with_orders,
)

STAR = (5, ((0, 2), (1, 2), (2, 3), (2, 4)))


class StruckOut(unittest.TestCase):
    def test_neighbours_become_tied_and_its_ties_go(self):
        told = struck_out(RING, [0, 1, 2, 3, 4], 0)
        self.assertEqual(told, (5, ((1, 2), (1, 4), (2, 3), (3, 4))))
        told = struck_out(STAR, [4, 3, 2, 1, 0], 2)
        self.assertEqual(told, (5, ((0, 1), (0, 3), (0, 4), (1, 3), (1, 4), (3, 4))))

    def test_only_neighbours_that_are_left_become_tied(self):
        self.assertEqual(struck_out(STAR, [0, 2, 4], 2), (5, ((0, 4),)))
        self.assertEqual(struck_out(STAR, [2, 3], 2), (5, ()))
        self.assertEqual(struck_out(STAR, [2], 2), (5, ()))

    def test_all_other_ties_stay(self):
        web = (6, ((0, 1), (0, 2), (1, 2), (2, 3), (4, 5)))
        self.assertEqual(struck_out(web, [0, 3], 0), (6, ((1, 2), (2, 3), (4, 5))))
        self.assertEqual(struck_out(web, [2, 3], 3), (6, ((0, 1), (0, 2), (1, 2), (4, 5))))

    def test_a_place_without_neighbours(self):
        self.assertEqual(struck_out((3, ((0, 1),)), [0, 1, 2], 2), (3, ((0, 1),)))
        self.assertEqual(struck_out((1, ()), [0], 0), (1, ()))

    def test_all_small_webs_and_lists(self):
        for web in webs_of(4):
            for mask in range(16):
                left = [place for place in (2, 0, 3, 1) if mask >> place & 1]
                for v in left:
                    ties = both_ways(web[1])
                    near = [u for u in left if frozenset((u, v)) in ties]
                    wanted = {tie for tie in ties if v not in tie}
                    wanted |= {frozenset((a, b)) for a in near for b in near if a != b}
                    told = struck_out(web, left, v)
                    self.assertEqual(told, (4, ties_of(wanted)))
                    self.assertIs(is_web(told), True)

    def test_what_is_no_place_is_refused(self):
        for v in odd_places():
            with self.assertRaises(NoPlace):
                struck_out(RING, [0, 1, 2, 3, 4], v)

    def test_what_is_no_place_among_those_left_is_refused(self):
        for thing in odd_places():
            for left in ([0, thing], [thing, 0], [0, 1, thing, 2]):
                with self.assertRaises(NoPlace):
                    struck_out(RING, left, 0)


class Game(unittest.TestCase):
    def test_place_by_place(self):
        now = struck_out(RING, [0, 1, 2, 3, 4], 0)
        self.assertEqual(now, (5, ((1, 2), (1, 4), (2, 3), (3, 4))))
        now = struck_out(now, [1, 2, 3, 4], 2)
        self.assertEqual(now, (5, ((1, 3), (1, 4), (3, 4))))
        now = struck_out(now, [1, 3, 4], 4)
        self.assertEqual(now, (5, ((1, 3),)))
        now = struck_out(now, [1, 3], 1)
        self.assertEqual(now, (5, ()))
        order = [0, 2, 4, 1, 3]
        self.assertEqual(fill(RING, order), [(1, 3), (1, 4)])
        self.assertEqual(filled(RING, order), (5, ((0, 1), (0, 4), (1, 2), (1, 3), (1, 4), (2, 3), (3, 4))))

    def test_how_much_hangs_on_the_order(self):
        self.assertEqual(fill(STAR, [0, 1, 3, 4, 2]), [])
        self.assertEqual(fill(STAR, [2, 0, 1, 3, 4]), [(0, 1), (0, 3), (0, 4), (1, 3), (1, 4), (3, 4)])
        self.assertEqual(fill(STAR, [4, 2, 0, 1, 3]), [(0, 1), (0, 3), (1, 3)])
        self.assertEqual(filled(STAR, [0, 1, 3, 4, 2]), STAR)

    def test_few_places(self):
        self.assertEqual(fill((0, ()), []), [])
        self.assertEqual(filled((0, ()), []), (0, ()))
        self.assertEqual(fill((1, ()), [0]), [])
        self.assertEqual(filled((2, ((0, 1),)), [1, 0]), (2, ((0, 1),)))
        for order in orders_of(3):
            whole = (3, ((0, 1), (0, 2), (1, 2)))
            self.assertEqual(fill(whole, order), [])
            self.assertEqual(filled(whole, order), whole)

    def test_twelve_places_on_a_line(self):
        line = (12, tuple((a, a + 1) for a in range(11)))
        self.assertEqual(fill(line, list(range(12))), [])
        inner_first = list(range(1, 11)) + [0, 11]
        self.assertEqual(fill(line, inner_first), [(0, b) for b in range(2, 12)])

    def test_as_the_places_struck_out_one_by_one(self):
        for web, order in webs_with_orders():
            now, left, seen = web, list(order), set(web[1])
            while left:
                now = struck_out(now, left, left[0])
                left = left[1:]
                seen |= set(now[1])
            self.assertEqual(filled(web, order), (web[0], tuple(sorted(seen))))
            self.assertEqual(fill(web, order), sorted(seen - set(web[1])))

    def test_kinds_of_what_is_told(self):
        told = fill(RING, [0, 1, 2, 3, 4])
        self.assertIs(type(told), list)
        self.assertEqual([type(pair) for pair in told], [tuple] * len(told))
        self.assertIs(is_web(filled(RING, [0, 1, 2, 3, 4])), True)

    def test_what_is_no_order_is_refused(self):
        for thing in odd_orders():
            for call in (fill, filled):
                with self.assertRaises(NoOrder):
                    call(RING, thing)

    def test_what_is_no_order_of_no_places_is_refused(self):
        for thing in odd_things() + nested_lists() + [(), [0]]:
            for call in (fill, filled):
                with self.assertRaises(NoOrder):
                    call((0, ()), thing)


class Ways(unittest.TestCase):
    """Point 7: the filled web found without the game."""

    def check(self, web, order):
        wanted = tied_by_ways(web, order)
        self.assertEqual(filled(web, order), (web[0], wanted), (web, order))
        self.assertEqual(fill(web, order), [tie for tie in wanted if tie not in web[1]], (web, order))

    def test_small_webs(self):
        for web, order in webs_with_orders():
            self.check(web, order)

    def test_great_webs(self):
        for web, order in great_webs_with_orders():
            self.check(web, order)
