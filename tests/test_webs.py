"""Points 5 and 6: webs, neighbours and orders."""

import unittest

from fewfills.errors import NoPlace, NoWeb
from fewfills.webs import is_order, is_web, neighbours, web_of
from tests.helpers import RING, all_pairs, nested_lists, odd_things, orders_of, webs_of


def odd_ties():
    """Things that are no tie of a web of five places."""
    made = [
        0, (), (0,), (0, 1, 2), [], [0, 1], ((0, 1),), (2, 2), (0, 0), (0, 5), (5, 0), (-1, 0), (0, -1), (4, 12),
        (0, 10 ** 5000), (0, True), (True, 0), (False, 1), (0, "1"), ("0", "1"), (0, None), (0, 1.0), (0.0, 1),
        (0, (1,)), ((0,), 1), ([0], 1), (0, [1]), "01",
    ]
    for thing in odd_things() + nested_lists():
        made.extend([thing, (0, thing), (thing, 0), (thing, thing)])
    return made


def odd_counts():
    return odd_things() + nested_lists() + [-1, 13, 14, -12, 10 ** 5000, -(10 ** 5000), (), (3,), [3]]


class Made(unittest.TestCase):
    def test_without_ties(self):
        for n in range(13):
            self.assertEqual(web_of(n, []), (n, ()))
            self.assertEqual(web_of(n, ()), (n, ()))

    def test_either_way_round_several_times_in_a_list_and_in_a_tuple(self):
        ties = [(3, 1), (0, 2), (1, 3), (2, 0), (0, 1), (0, 2), (3, 2)]
        wanted = (4, ((0, 1), (0, 2), (1, 3), (2, 3)))
        self.assertEqual(web_of(4, ties), wanted)
        self.assertEqual(web_of(4, tuple(ties)), wanted)
        self.assertEqual(web_of(4, ties * 40), wanted)

    def test_rising_by_number_and_not_by_figures(self):
        self.assertEqual(web_of(12, [(10, 2), (2, 9), (11, 1), (1, 2)]), (12, ((1, 2), (1, 11), (2, 9), (2, 10))))

    def test_all_ties_of_each_count(self):
        for n in range(13):
            turned = [(b, a) for a, b in reversed(all_pairs(n))]
            self.assertEqual(web_of(n, turned), (n, tuple(all_pairs(n))))

    def test_all_small_ones(self):
        for n in range(5):
            for web in webs_of(n):
                turned = [(b, a) for a, b in reversed(web[1])]
                self.assertEqual(web_of(n, turned + list(web[1])), web)

    def test_tuples_are_told_throughout(self):
        told = web_of(3, [(1, 0)])
        self.assertIs(type(told), tuple)
        self.assertIs(type(told[1]), tuple)
        self.assertIs(type(told[1][0]), tuple)


class NotMade(unittest.TestCase):
    def refused(self, n, ties):
        with self.assertRaises(NoWeb):
            web_of(n, ties)

    def test_counts(self):
        for n in odd_counts():
            self.refused(n, [])
            self.refused(n, ())
            self.refused(n, [(0, 1)])

    def test_ties_of_other_kinds(self):
        for ties in odd_things() + [0, 1, 12]:
            for n in (0, 3):
                self.refused(n, ties)

    def test_each_tie(self):
        for tie in odd_ties():
            self.refused(5, [tie])
            self.refused(5, (tie,))
            self.refused(5, [(0, 1), tie, (1, 2)])
            self.refused(5, ((0, 1), (1, 2), tie))

    def test_places_that_are_not_there(self):
        self.refused(0, [(0, 1)])
        self.refused(1, [(0, 1)])
        self.refused(12, [(0, 12)])
        for n in range(2, 13):
            self.refused(n, [(n - 1, n)])
            self.refused(n, [(-1, n - 1)])

    def test_both_at_fault(self):
        self.refused(None, None)
        self.refused(13, "ties")
        self.refused(True, [[0, 1]])


class IsWeb(unittest.TestCase):
    def test_webs(self):
        for n in range(5):
            for web in webs_of(n):
                self.assertIs(is_web(web), True)
        for n in range(13):
            self.assertIs(is_web((n, ())), True)
            self.assertIs(is_web((n, tuple(all_pairs(n)))), True)

    def test_bent_by_one_thing(self):
        ties = RING[1]
        bent = [
            (4, ties), (13, ties), (-1, ()), (True, ()), ("5", ties), (5.0, ties), (None, ties),
            [5, ties], (5, list(ties)), (5,), (5, ties, ()), (5, ties, ties), (ties, 5), (5, None), (5, ""), (5, {}),
            (5, ties[::-1]), (5, ties + ties[-1:]), (5, ties[:1] + ties), (5, ((1, 0),) + ties[1:]),
            (5, (ties[1], ties[0]) + ties[2:]), (5, ([0, 1],) + ties[1:]), (5, (0, 1)),
        ]
        for thing in bent:
            self.assertIs(is_web(thing), False, thing)

    def test_bent_at_any_tie(self):
        for tie in odd_ties():
            for at in range(len(RING[1])):
                self.assertIs(is_web((5, RING[1][:at] + (tie,) + RING[1][at + 1:])), False)

    def test_counts(self):
        for n in odd_counts():
            self.assertIs(is_web((n, ())), False)

    def test_things_of_other_kinds(self):
        for thing in odd_things() + nested_lists() + [0, 5, (), [], ((), ()), (0,), [0, ()], ((0, ()),)]:
            self.assertIs(is_web(thing), False)


class Neighbours(unittest.TestCase):
    def test_by_hand(self):
        self.assertEqual(neighbours(RING, 0), [1, 4])
        self.assertEqual(neighbours(RING, 2), [1, 3])
        self.assertEqual(neighbours(RING, 4), [0, 3])
        self.assertEqual(neighbours((3, ((0, 1),)), 2), [])
        self.assertEqual(neighbours((12, ((1, 5), (2, 5), (5, 9), (5, 10), (9, 10))), 5), [1, 2, 9, 10])

    def test_all_small_webs(self):
        for n in range(6):
            for web in webs_of(n, 1 if n < 5 else 5):
                for v in range(n):
                    wanted = [u for u in range(n) if (min(u, v), max(u, v)) in web[1]]
                    told = neighbours(web, v)
                    self.assertEqual(told, wanted)
                    self.assertIs(type(told), list)

    def test_what_is_no_place(self):
        for v in odd_things() + nested_lists() + [-1, 5, 12, 10 ** 5000, (), (0,), [], [0]]:
            with self.assertRaises(NoPlace):
                neighbours(RING, v)

    def test_a_web_without_places_has_none(self):
        for v in (-1, 0, 1, False, None):
            with self.assertRaises(NoPlace):
                neighbours((0, ()), v)


class IsOrder(unittest.TestCase):
    def test_orders(self):
        for n in range(6):
            for order in orders_of(n):
                self.assertIs(is_order((n, ()), order), True)
        self.assertIs(is_order(RING, [4, 2, 0, 1, 3]), True)
        self.assertIs(is_order((12, ()), list(range(11, -1, -1))), True)

    def test_bent_by_one_thing(self):
        bent = [
            [], [0], [0, 1, 2, 3], [0, 1, 2, 3, 4, 5], [0, 1, 2, 3, 4, 4], [0, 1, 2, 3, 3], [1, 1, 2, 3, 4],
            [0, 1, 2, 3, 5], [-1, 1, 2, 3, 4], [5, 1, 2, 3, 4], [0, True, 2, 3, 4], [False, 1, 2, 3, 4],
            [0, 1.0, 2, 3, 4], [0, "1", 2, 3, 4], [0, None, 2, 3, 4], [0, (1,), 2, 3, 4], [0, [1], 2, 3, 4],
            [[0, 1, 2, 3, 4]], [0, 1, 2, 3, 10 ** 5000],
        ]
        for thing in bent:
            self.assertIs(is_order(RING, thing), False)
        for thing in odd_things() + nested_lists():
            for at in range(5):
                order = [0, 1, 2, 3, 4]
                order[at] = thing
                self.assertIs(is_order(RING, order), False)

    def test_tuples_and_things_of_other_kinds(self):
        for thing in odd_things() + nested_lists() + [0, 5, (), (0,), (0, 1, 2, 3, 4), "01234", range(5)]:
            self.assertIs(is_order(RING, thing), False)

    def test_a_web_without_places(self):
        self.assertIs(is_order((0, ()), []), True)
        for thing in odd_things() + nested_lists() + [(), [0]]:
            self.assertIs(is_order((0, ()), thing), False)
