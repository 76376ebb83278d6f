"""Points 8 and 9: parents, who waits for whom, and orders that keep the parents of another one."""

import unittest
from random import Random

from fewfills.errors import NoOrder, NoPlace
from fewfills.game import fill, filled
from fewfills.trees import keeps, parents, waits
from tests.helpers import (
    RING, drawn_webs_with_orders, great_webs_with_orders, nested_lists, odd_orders, odd_places, odd_things,
    orders_keeping, orders_of, parents_by_game, reached_from, webs_of, webs_with_orders,
)

# A line 0 - 1 - 2 - 3 and a pair 4 - 5 apart from it.
LINE = (6, ((0, 1), (1, 2), (2, 3), (4, 5)))


def waits_by_tree(tree, v):
    found = set()
    for place in range(len(tree)):
        here = tree[place]
        while here is not None:
            if here == v:
                found.add(place)
            here = tree[here]
    return sorted(found)


def waits_by_ways(web, order, v):
    """Those struck ahead of v from which a way leads to it through places struck ahead of it."""
    ahead = order[:order.index(v)]
    return sorted(reached_from(web, v, lambda place: place in ahead) & set(ahead))


def stands_ahead(tree, order):
    return all(tree[place] is None or order.index(place) < order.index(tree[place]) for place in order)


class Parents(unittest.TestCase):
    def test_by_hand(self):
        self.assertEqual(parents(RING, [0, 1, 2, 3, 4]), [1, 2, 3, 4, None])
        self.assertEqual(parents(RING, [0, 2, 4, 1, 3]), [4, 3, 1, None, 1])
        self.assertEqual(parents(LINE, [0, 1, 2, 3, 4, 5]), [1, 2, 3, None, 5, None])
        self.assertEqual(parents(LINE, [5, 3, 0, 4, 2, 1]), [1, None, 1, 2, None, 4])

    def test_the_one_struck_first_and_not_the_least(self):
        whole = (4, ((0, 1), (0, 2), (0, 3), (1, 2), (1, 3), (2, 3)))
        self.assertEqual(parents(whole, [0, 3, 1, 2]), [3, 2, None, 1])

    def test_a_tie_that_came_in_the_game_counts(self):
        # 0 ties 1 and 2 to one another, so 1 has 2 as its parent.
        self.assertEqual(parents((3, ((0, 1), (0, 2))), [0, 1, 2]), [1, 2, None])

    def test_roots(self):
        for n in range(13):
            self.assertEqual(parents((n, ()), list(range(n - 1, -1, -1))), [None] * n)
        for web, order in drawn_webs_with_orders(each=5):
            if order:
                self.assertIsNone(parents(web, order)[order[-1]])

    def test_by_the_game_gone_through(self):
        for web, order in webs_with_orders():
            self.assertEqual(parents(web, order), parents_by_game(web, order), (web, order))
        for web, order in list(drawn_webs_with_orders()) + list(great_webs_with_orders()):
            self.assertEqual(parents(web, order), parents_by_game(web, order), (web, order))

    def test_kinds_of_what_is_told(self):
        told = parents(RING, [0, 1, 2, 3, 4])
        self.assertIs(type(told), list)
        self.assertEqual([type(place) for place in told], [int] * 4 + [type(None)])

    def test_what_is_no_order_is_refused(self):
        for thing in odd_orders():
            with self.assertRaises(NoOrder):
                parents(RING, thing)
        for thing in odd_things() + nested_lists() + [(), [0]]:
            with self.assertRaises(NoOrder):
                parents((0, ()), thing)


class Waits(unittest.TestCase):
    def test_by_hand(self):
        order = [5, 3, 0, 4, 2, 1]
        self.assertEqual([waits(LINE, order, v) for v in range(6)], [[], [0, 2, 3], [3], [], [5], []])
        self.assertEqual([waits(RING, [0, 2, 4, 1, 3], v) for v in range(5)],
                         [[], [0, 2, 4], [], [0, 1, 2, 4], [0]])
        self.assertEqual(waits((1, ()), [0], 0), [])

    def test_all_that_are_below_in_the_tree(self):
        for web, order in list(webs_with_orders())[::5] + list(drawn_webs_with_orders(each=15)):
            tree = parents_by_game(web, order)
            for v in range(web[0]):
                told = waits(web, order, v)
                self.assertEqual(told, waits_by_tree(tree, v), (web, order, v))
                self.assertEqual(told, sorted(set(told) - {v}))
                self.assertIs(type(told), list)

    def test_by_ways_alone(self):
        great = list(drawn_webs_with_orders(each=15)) + list(great_webs_with_orders())[::4]
        for web, order in list(webs_with_orders())[::3] + great:
            for v in range(web[0]):
                self.assertEqual(waits(web, order, v), waits_by_ways(web, order, v), (web, order, v))

    def test_what_is_no_place_is_refused_whatever_the_order(self):
        for v in odd_places():
            for order in [[0, 1, 2, 3, 4]] + odd_orders():
                with self.assertRaises(NoPlace):
                    waits(RING, order, v)

    def test_a_web_without_places_has_none(self):
        for v in (-1, 0, 1, False, None):
            for order in ([], [0], None):
                with self.assertRaises(NoPlace):
                    waits((0, ()), order, v)

    def test_what_is_no_order_is_refused(self):
        for v in range(5):
            for thing in odd_orders():
                with self.assertRaises(NoOrder):
                    waits(RING, thing, v)


class Keeps(unittest.TestCase):
    def test_by_hand(self):
        tree = [1, None, 1, 2, None, 4]
        self.assertIs(keeps(tree, [5, 3, 0, 4, 2, 1]), True)
        self.assertIs(keeps(tree, [3, 2, 0, 1, 5, 4]), True)
        self.assertIs(keeps(tree, [3, 2, 1, 0, 5, 4]), False)
        self.assertIs(keeps(tree, [2, 3, 0, 1, 5, 4]), False)
        self.assertIs(keeps(tree, [3, 2, 0, 1, 4, 5]), False)

    def test_without_parents_any_order_does(self):
        for n in range(5):
            for order in orders_of(n):
                self.assertIs(keeps([None] * n, order), True)

    def test_a_place_far_ahead_of_its_child(self):
        self.assertIs(keeps([4, None, None, None, None], [4, 1, 2, 3, 0]), False)
        self.assertIs(keeps([4, None, None, None, None], [0, 1, 2, 3, 4]), True)

    def test_an_order_and_with_any_two_places_exchanged(self):
        for web, order in list(webs_with_orders())[::29] + list(drawn_webs_with_orders(each=4)):
            tree = parents(web, order)
            self.assertIs(keeps(tree, order), True)
            for k in range(web[0]):
                for m in range(k):
                    bent = list(order)
                    bent[k], bent[m] = bent[m], bent[k]
                    self.assertIs(keeps(tree, bent), stands_ahead(tree, bent), (tree, bent))

    def test_what_is_no_order_is_refused(self):
        for tree in ([1, 2, 3, 4, None], [None] * 5):
            for thing in odd_orders():
                with self.assertRaises(NoOrder):
                    keeps(tree, thing)

    def test_an_order_of_another_count_is_refused(self):
        for n in range(6):
            for other in range(6):
                if n != other:
                    with self.assertRaises(NoOrder):
                        keeps([None] * n, list(range(other)))
        for thing in odd_things() + nested_lists() + [()]:
            with self.assertRaises(NoOrder):
                keeps([], thing)


class TheVerySame(unittest.TestCase):
    """An order that keeps the parents of another one has the same filled web, fill and parents."""

    def check(self, web, order, other):
        self.assertEqual(filled(web, other), filled(web, order), (web, order, other))
        self.assertEqual(fill(web, other), fill(web, order), (web, order, other))
        self.assertEqual(parents(web, other), parents(web, order), (web, order, other))

    def test_all_orders_of_small_webs(self):
        for n in range(5):
            for web in webs_of(n):
                for order in orders_of(n, 5):
                    tree = parents(web, order)
                    for other in orders_of(n):
                        kept = keeps(tree, other)
                        self.assertIs(kept, stands_ahead(tree, other))
                        if kept:
                            self.check(web, order, other)

    def test_great_webs(self):
        source = Random(9)
        unlike = 0
        for web, order in drawn_webs_with_orders(each=12):
            tree = parents(web, order)
            for other in orders_keeping(source, tree, 3):
                self.assertIs(keeps(tree, other), True)
                self.check(web, order, other)
                unlike += other != order
        self.assertGreater(unlike, 200)
