"""Point 14: the least number, an order that has it, and a paper that denies one less."""

import unittest
from random import Random

from fewfills.errors import TooMany
from fewfills.game import fill
from fewfills.least import least
from fewfills.papers import denies
from tests.helpers import (
    all_pairs, denies_by_words, drawn_web, game_of, orders_of, renamed, ring_web, shuffled, two_sides, webs_of,
    with_ties,
)


class Least(unittest.TestCase):
    def check(self, web):
        """What is told holds by its own words, which show the number to be the least; it is handed back."""
        told = least(web)
        self.assertEqual([type(told), len(told)], [tuple, 3])
        number, order, paper = told
        self.assertEqual([type(number), type(order)], [int, list])
        self.assertTrue(all(type(place) is int for place in order))
        self.assertEqual(sorted(order), list(range(web[0])), web)
        self.assertEqual(len(game_of(web, order)[1]), number, web)
        self.assertEqual(len(fill(web, order)), number, web)
        if number == 0:
            self.assertIsNone(paper, web)
        else:
            self.assertIs(denies(web, number - 1, paper), True, web)
            self.assertTrue(denies_by_words(web, number - 1, paper), (web, paper))
            self.assertIs(denies(web, number, paper), False, web)
        return number

    def test_few_places(self):
        self.assertEqual(least((0, ())), (0, [], None))
        self.assertEqual(least((1, ())), (0, [0], None))
        for n in range(4):
            for web in webs_of(n):
                self.assertEqual(self.check(web), 0)

    def test_none_and_all_ties(self):
        for n in range(8):
            self.assertEqual(self.check((n, ())), 0)
            self.assertEqual(self.check((n, tuple(all_pairs(n)))), 0)

    def test_rings(self):
        source = Random(16)
        for m in range(4, 8):
            for n in range(m, 8):
                for _ in range(5):
                    ring = shuffled(source, range(n))[:m]
                    self.assertEqual(self.check(ring_web(n, ring)), m - 3)

    def test_two_sides(self):
        # The lesser side becomes tied throughout.
        for left in range(1, 7):
            for right in range(1, 8 - left):
                side = min(left, right)
                self.assertEqual(self.check(two_sides(left, right)), side * (side - 1) // 2)

    def test_by_hand(self):
        # Two rings of four with one side shared; a ring of six with a hub; two rings of three, tied place by place.
        self.assertEqual(self.check(with_ties(ring_web(6, [0, 1, 2, 3, 4, 5]), (1, 4))), 2)
        self.assertEqual(self.check(with_ties(ring_web(7, list(range(6))), *[(place, 6) for place in range(6)])), 3)
        self.assertEqual(self.check((6, ((0, 1), (0, 2), (0, 3), (1, 2), (1, 4), (2, 5), (3, 4), (3, 5), (4, 5)))), 3)

    def test_the_place_that_brings_the_fewest_is_not_always_the_best(self):
        # Where always one that brings the fewest pairs is struck out next, some orders of this web come to 4.
        ties = ((0, 1), (0, 3), (0, 4), (0, 5), (0, 6), (1, 3), (1, 5), (1, 6), (2, 4), (2, 5), (2, 6), (3, 4), (3, 5))
        source = Random(20)
        for _ in range(60):
            self.assertEqual(self.check(renamed((7, ties), shuffled(source, range(7)))), 3)

    def test_against_all_orders(self):
        for n, step in ((4, 1), (5, 5), (6, 499), (7, 262133)):
            orders = orders_of(n)
            for web in webs_of(n, step):
                wanted = min(len(game_of(web, order)[1]) for order in orders)
                self.assertEqual(self.check(web), wanted, web)

    def test_many_webs(self):
        source = Random(17)
        numbers = []
        for n in range(8):
            for _ in range(120):
                numbers.append(self.check(drawn_web(source, n)))
        self.assertEqual(sorted(set(numbers)), list(range(max(numbers) + 1)))
        self.assertGreater(max(numbers), 2)

    def test_the_number_hangs_not_on_the_names(self):
        source = Random(18)
        for _ in range(30):
            web = drawn_web(source, 7)
            self.assertEqual(self.check(web), self.check(renamed(web, shuffled(source, range(7)))))

    def test_of_more_than_seven_places_too_many(self):
        source = Random(19)
        for n in range(8, 13):
            for web in ((n, ()), (n, tuple(all_pairs(n))), ring_web(n, list(range(n))), drawn_web(source, n)):
                with self.assertRaises(TooMany):
                    least(web)
