"""Points 15 and 16: the pieces of a web without some places, their shores, and the pairs that may come."""

import unittest
from itertools import combinations
from random import Random

from fewfills.errors import NoParting, NoPlace
from fewfills.game import fill
from fewfills.parting import may_come, pieces, shores
from tests.helpers import (
    RING, all_pairs, both_ways, drawn_web, nested_lists, odd_places, odd_things, reached_from, shuffled, webs_of,
)

# A line 0 - 1 - 2 - 3 - 4 with 5 tied to 2 and 6 to nothing.
LINE = (7, ((0, 1), (1, 2), (2, 3), (2, 5), (3, 4)))


def webs_with_partings():
    """All webs of up to four places with all partings, and many greater ones with some."""
    source = Random(22)
    for n in range(5):
        for web in webs_of(n):
            for count in range(n + 1):
                for some in combinations(range(n), count):
                    yield web, shuffled(source, some)
    for n in range(5, 13):
        for count in list(range(n + 1)) * 4:
            # Sparse ones are drawn more often: dense ones hardly fall to pieces.
            webs = [drawn_web(source, n) for _ in range(4)]
            yield min(webs, key=lambda web: len(web[1])), source.sample(range(n), count)


def pieces_by_ways(web, some):
    found = []
    for place in range(web[0]):
        if place not in some:
            piece = sorted(reached_from(web, place, lambda inner: inner not in some) - set(some))
            if piece not in found:
                found.append(piece)
    return found


def shores_by_ties(web, some):
    ties = both_ways(web[1])
    told = []
    for piece in pieces_by_ways(web, some):
        told.append([a for a in range(web[0]) if a in some and any(frozenset((a, b)) in ties for b in piece)])
    return told


def may_come_by_words(web, some):
    told = []
    grounds = [set(piece) | set(shore) for piece, shore in zip(pieces_by_ways(web, some), shores_by_ties(web, some))]
    for a, b in all_pairs(web[0]):
        together = any(a in ground and b in ground for ground in grounds)
        if (a, b) not in web[1] and (together or a in some and b in some):
            told.append((a, b))
    return told


class Pieces(unittest.TestCase):
    def test_by_hand(self):
        self.assertEqual(pieces(LINE, [2]), [[0, 1], [3, 4], [5], [6]])
        self.assertEqual(pieces(LINE, [3, 1]), [[0], [2, 5], [4], [6]])
        self.assertEqual(pieces(LINE, []), [[0, 1, 2, 3, 4, 5], [6]])
        self.assertEqual(pieces(RING, [0, 2]), [[1], [3, 4]])
        self.assertEqual(pieces(RING, [4]), [[0, 1, 2, 3]])

    def test_by_their_least_places_and_each_rising(self):
        web = (6, ((0, 5), (1, 4), (2, 3), (3, 5)))
        self.assertEqual(pieces(web, []), [[0, 2, 3, 5], [1, 4]])
        self.assertEqual(pieces(web, [3]), [[0, 5], [1, 4], [2]])
        self.assertEqual(pieces((12, ((2, 11), (9, 10), (1, 10))), [5, 0]),
                         [[1, 9, 10], [2, 11], [3], [4], [6], [7], [8]])

    def test_all_places_and_none(self):
        for n in range(13):
            self.assertEqual(pieces((n, ()), list(range(n))), [])
            self.assertEqual(pieces((n, ()), []), [[place] for place in range(n)])
            self.assertEqual(pieces((n, tuple(all_pairs(n))), []), [list(range(n))] if n else [])

    def test_by_ways_through_others(self):
        for web, some in webs_with_partings():
            self.assertEqual(pieces(web, some), pieces_by_ways(web, some), (web, some))

    def test_kinds_of_what_is_told(self):
        for call in (pieces, shores):
            told = call(LINE, [2])
            self.assertEqual([type(told)] + [type(one) for one in told], [list] * 5)
            self.assertEqual({type(place) for one in told for place in one}, {int})


class Shores(unittest.TestCase):
    def test_by_hand(self):
        self.assertEqual(shores(LINE, [2]), [[2], [2], [2], []])
        self.assertEqual(shores(LINE, [3, 1]), [[1], [1, 3], [3], []])
        self.assertEqual(shores(LINE, [6, 3, 1]), [[1], [1, 3], [3]])
        self.assertEqual(shores(LINE, []), [[], []])
        self.assertEqual(shores(LINE, [6, 5, 4, 3, 2, 1, 0]), [])

    def test_in_the_order_of_the_pieces(self):
        for web, some in webs_with_partings():
            self.assertEqual(shores(web, some), shores_by_ties(web, some), (web, some))


class MayCome(unittest.TestCase):
    def test_by_hand(self):
        self.assertEqual(may_come(RING, [0, 2]), [(0, 2), (0, 3), (2, 4)])
        self.assertEqual(may_come(LINE, [2]), [(0, 2), (2, 4)])
        self.assertEqual(may_come(LINE, [1, 6]), [(1, 3), (1, 4), (1, 5), (1, 6), (2, 4), (3, 5), (4, 5)])

    def test_all_in_the_parting(self):
        for n in range(13):
            self.assertEqual(may_come((n, ()), list(range(n))), all_pairs(n))
            self.assertEqual(may_come((n, tuple(all_pairs(n))), list(range(n))), [])
        self.assertEqual(may_come(RING, [4, 3, 2, 1, 0]), [(0, 2), (0, 3), (1, 3), (1, 4), (2, 4)])

    def test_none_in_the_parting(self):
        for n in range(13):
            self.assertEqual(may_come((n, ()), []), [])
        self.assertEqual(may_come(RING, []), [(0, 2), (0, 3), (1, 3), (1, 4), (2, 4)])
        self.assertEqual(may_come((5, ((0, 1), (1, 2), (3, 4))), []), [(0, 2)])

    def test_by_its_own_words(self):
        for web, some in webs_with_partings():
            told = may_come(web, some)
            self.assertEqual(told, may_come_by_words(web, some), (web, some))
            self.assertIs(type(told), list)

    def test_the_fill_of_orders_with_the_parting_behind_is_among_them(self):
        source = Random(23)
        came = 0
        for web, some in webs_with_partings():
            others = [place for place in range(web[0]) if place not in some]
            for _ in range(2):
                come = fill(web, shuffled(source, others) + shuffled(source, some))
                self.assertLessEqual(set(come), set(may_come(web, some)), (web, some))
                came += len(come)
        self.assertGreater(came, 1000)


class Refused(unittest.TestCase):
    def check(self, wanted, web, some):
        for call in (pieces, shores, may_come):
            with self.assertRaises(wanted):
                call(web, some)

    def test_what_is_no_list(self):
        for thing in odd_things() + [0, 5, (), (0,), (0, 1), (0, 0), (None,), (7,)]:
            self.check(NoParting, RING, thing)
            self.check(NoParting, (0, ()), thing)

    def test_what_holds_no_place(self):
        for thing in odd_places():
            for some in ([thing], [0, thing], [thing, 0], [3, thing, 1]):
                self.check(NoPlace, RING, some)
        for thing in nested_lists():
            self.check(NoPlace, RING, thing)
            self.check(NoPlace, (0, ()), thing)
        self.check(NoPlace, (0, ()), [0])

    def test_what_holds_no_place_and_a_place_twice(self):
        for thing in odd_places():
            for some in ([0, 0, thing], [thing, 2, 2], [thing, thing], [1, thing, 1]):
                self.check(NoPlace, RING, some)

    def test_a_place_twice(self):
        for some in ([0, 0], [4, 4, 4], [0, 1, 2, 3, 4, 0], [3, 1, 3], [1, 2, 3, 3]):
            self.check(NoParting, RING, some)
        for n in range(1, 13):
            self.check(NoParting, (n, ()), list(range(n)) + [n - 1])
