"""Points 10 and 11: rings, chords, bare rings, and of each web an order without fill or a bare ring."""

import unittest
from itertools import combinations, permutations
from random import Random

from fewfills.chords import chords_of, is_bare, is_ring, without_fill
from fewfills.game import fill
from tests.helpers import (
    RING, all_pairs, bare_rings_of, both_ways, drawn_web, drawn_webs_with_orders, game_of, is_bare_by_words,
    nested_lists, odd_things, orders_of, renamed, ring_web, shuffled, two_sides, webs_of, with_ties,
)

SIX = [4, 0, 5, 2, 1, 3]


def is_ring_by_words(web, places):
    ties = both_ways(web[1])
    if len(places) < 3 or len(set(places)) < len(places):
        return False
    return all(frozenset((a, b)) in ties for a, b in zip(places, places[1:] + places[:1]))


def chords_by_words(web, ring):
    found = []
    for a, b in web[1]:
        if a in ring and b in ring:
            apart = abs(ring.index(a) - ring.index(b))
            if apart not in (1, len(ring) - 1):
                found.append((a, b))
    return found


def turned(ring):
    """The same ring from each of its places on, and from behind."""
    for k in range(len(ring)):
        yield ring[k:] + ring[:k]
        yield (ring[k:] + ring[:k])[::-1]


def web_without_bare_ring(source, n):
    """Each place is tied to some places that are all tied to one another, so none of the ties bars an order."""
    groups, ties = [[]], []
    for place in range(n):
        group = source.choice(groups)
        near = source.sample(group, source.randint(0, len(group)))
        ties += [(other, place) for other in near]
        groups.append(near + [place])
    return renamed((n, tuple(ties)), shuffled(source, range(n)))


def web_with_bare_ring(source, n, m):
    """A bare ring of m places, and others tied to it and one another as is drawn."""
    ring = list(range(m))
    ties = [pair for pair in drawn_web(source, n)[1] if pair[1] >= m]
    return renamed(with_ties(ring_web(n, ring), *ties), shuffled(source, range(n)))


class IsRing(unittest.TestCase):
    def both(self, web, thing, ring, bare):
        self.assertIs(is_ring(web, thing), ring)
        self.assertIs(is_bare(web, thing), bare)

    def test_rings_turned_and_from_behind(self):
        for m in range(3, 13):
            ring = [(5 * k + 2) % m for k in range(m)] if m % 5 else list(range(m))
            web = ring_web(12, ring)
            for same in turned(ring):
                self.both(web, same, True, m >= 4)

    def test_a_ring_of_three_is_none_that_is_bare(self):
        whole = (4, tuple(all_pairs(4)))
        for ring in permutations(range(4), 3):
            self.both(whole, list(ring), True, False)

    def test_a_ring_with_a_chord_is_not_bare(self):
        web = ring_web(6, SIX)
        for pair in all_pairs(6):
            if pair not in web[1]:
                for same in turned(SIX):
                    self.both(with_ties(web, pair), same, True, False)

    def test_bent_by_one_thing(self):
        web = ring_web(8, SIX)
        self.both(web, SIX, True, True)
        for k in range(6):
            self.both(web, SIX[:k] + SIX[k + 1:], False, False)
            for place in range(-1, 9):
                # A place more, whether or not it is in the ring already.
                self.both(web, SIX[:k] + [place] + SIX[k:], False, False)
                if place != SIX[k]:
                    self.both(web, SIX[:k] + [place] + SIX[k + 1:], False, False)
            for thing in odd_things() + nested_lists() + [str(SIX[k]), float(SIX[k]), (SIX[k],), [SIX[k]], 10 ** 5000]:
                self.both(web, SIX[:k] + [thing] + SIX[k + 1:], False, False)
                self.both(web, SIX[:k] + [thing] + SIX[k:], False, False)
        for k, m in combinations(range(6), 2):
            bent = list(SIX)
            bent[k], bent[m] = bent[m], bent[k]
            self.both(web, bent, False, False)

    def test_truths_are_no_places(self):
        web = ring_web(4, [0, 1, 2, 3])
        self.both(web, [0, 1, 2, 3], True, True)
        self.both(web, [False, 1, 2, 3], False, False)
        self.both(web, [0, True, 2, 3], False, False)

    def test_bent_by_one_tie(self):
        web = ring_web(8, SIX)
        for tie in web[1]:
            fewer = (8, tuple(other for other in web[1] if other != tie))
            self.both(fewer, SIX, False, False)

    def test_twice_round(self):
        for m in (3, 4, 5):
            ring = list(range(m))
            self.both(ring_web(m, ring), ring * 2, False, False)
        self.both((2, ((0, 1),)), [0, 1, 0, 1], False, False)

    def test_too_few(self):
        whole = (4, tuple(all_pairs(4)))
        for thing in ([], [0], [0, 1], [0, 0], [0, 1, 0], [0, 1, 1]):
            self.both(whole, thing, False, False)

    def test_tuples_and_things_of_other_kinds(self):
        web = ring_web(4, [0, 1, 2, 3])
        ring = [0, 1, 2, 3]
        for thing in [tuple(ring), set(ring), dict.fromkeys(ring), "0123", b"\0\1\2\3", range(4), iter(ring), [ring],
                      (ring,), [tuple(ring)], 0, 4, ()] + odd_things() + nested_lists():
            self.both(web, thing, False, False)

    def test_webs_without_rings(self):
        for thing in ([], [0], [0, 1, 2], [0, 0, 0]):
            self.both((0, ()), thing, False, False)
            self.both((12, ()), thing, False, False)

    def test_all_lists_of_small_webs(self):
        for n in range(6):
            lists = [list(some) for m in range(n + 1) for some in permutations(range(n), m)]
            for web in webs_of(n, 1 if n < 5 else 13):
                for some in lists:
                    self.both(web, some, is_ring_by_words(web, some), is_bare_by_words(web, some))


class Chords(unittest.TestCase):
    def test_none(self):
        for m in range(3, 13):
            self.assertEqual(chords_of(ring_web(12, list(range(m))), list(range(m))), [])

    def test_few(self):
        web = with_ties(ring_web(8, SIX), (4, 2), (0, 1), (3, 7), (6, 7))
        for same in turned(SIX):
            self.assertEqual(chords_of(web, same), [(0, 1), (2, 4)])

    def test_all(self):
        for m in range(3, 13):
            whole, ring = (12, tuple(all_pairs(12))), list(range(m))
            told = chords_of(whole, ring)
            self.assertEqual(len(told), m * (m - 3) // 2)
            self.assertEqual(told, [pair for pair in all_pairs(m) if pair[1] - pair[0] not in (1, m - 1)])

    def test_the_first_and_the_last_stand_side_by_side(self):
        self.assertEqual(chords_of(RING, [0, 1, 2, 3, 4]), [])
        self.assertEqual(chords_of((4, tuple(all_pairs(4))), [3, 1, 0, 2]), [(0, 3), (1, 2)])

    def test_ties_to_other_places_are_none(self):
        web = with_ties(ring_web(7, [0, 1, 2, 3]), (0, 5), (2, 5), (5, 6), (4, 6))
        self.assertEqual(chords_of(web, [0, 1, 2, 3]), [])

    def test_rings_of_many_webs(self):
        source = Random(10)
        for _ in range(300):
            n = source.randint(3, 12)
            ring = shuffled(source, range(n))[:source.randint(3, n)]
            web = with_ties(ring_web(n, ring), *drawn_web(source, n)[1])
            told = chords_of(web, ring)
            self.assertEqual(told, chords_by_words(web, ring), (web, ring))
            self.assertIs(type(told), list)
            self.assertIs(is_ring(web, ring), True)
            self.assertIs(is_bare(web, ring), len(ring) >= 4 and not told)


class WithoutFill(unittest.TestCase):
    def check(self, web, wanted=None):
        """What is told is one of both by its own words; the kind is handed back."""
        told = without_fill(web)
        self.assertIs(type(told), tuple)
        self.assertEqual(len(told), 2)
        kind, places = told
        self.assertIs(type(places), list)
        self.assertTrue(all(type(place) is int for place in places))
        if kind == "order":
            self.assertEqual(sorted(places), list(range(web[0])), web)
            self.assertEqual(game_of(web, places)[1], [], web)
            self.assertEqual(fill(web, places), [], web)
        else:
            self.assertEqual(kind, "ring", web)
            self.assertTrue(is_bare_by_words(web, places), (web, places))
            self.assertIs(is_bare(web, places), True)
        self.assertIn(wanted, (None, kind), web)
        return kind

    def test_few_places(self):
        self.assertEqual(without_fill((0, ())), ("order", []))
        self.assertEqual(without_fill((1, ())), ("order", [0]))
        for n in range(4):
            for web in webs_of(n):
                self.check(web, "order")

    def test_no_ties_and_all_ties(self):
        for n in range(13):
            self.check((n, ()), "order")
            self.check((n, tuple(all_pairs(n))), "order")

    def test_rings_alone(self):
        source = Random(11)
        for m in range(4, 13):
            for n in range(m, 13):
                ring = shuffled(source, range(n))[:m]
                self.check(ring_web(n, ring), "ring")
                self.assertEqual(sorted(without_fill(ring_web(n, ring))[1]), sorted(ring))

    def test_just_one_of_both_in_small_webs(self):
        for n, step in ((4, 1), (5, 3), (6, 211)):
            for web in webs_of(n, step):
                kind = self.check(web)
                bare = any(True for ring in bare_rings_of(web))
                free = any(not game_of(web, order)[1] for order in orders_of(n))
                self.assertEqual((kind == "ring", kind == "order"), (bare, free), web)

    def test_many_webs(self):
        kinds = [self.check(web) for web, _ in drawn_webs_with_orders()]
        self.assertGreater(kinds.count("order"), 50)
        self.assertGreater(kinds.count("ring"), 50)

    def test_webs_built_without_a_bare_ring(self):
        source = Random(12)
        for n in range(13):
            for _ in range(40):
                self.check(web_without_bare_ring(source, n), "order")

    def test_webs_built_with_a_bare_ring(self):
        source = Random(13)
        for n in range(4, 13):
            for m in range(4, n + 1):
                for _ in range(8):
                    self.check(web_with_bare_ring(source, n, m), "ring")

    def test_a_ring_behind_many_free_places(self):
        # Of twelve places eight can be struck out without fill, and only then a ring of four bars.
        hung = [(8, 0), (9, 1), (10, 2), (11, 3), (4, 8), (5, 9), (6, 10), (7, 11)]
        self.check(with_ties(ring_web(12, [8, 9, 10, 11]), *hung), "ring")

    def test_two_sides(self):
        for left in range(1, 7):
            for right in range(1, 7):
                self.check(two_sides(left, right), "order" if min(left, right) == 1 else "ring")

    def test_a_hub_bars_nothing_and_mends_nothing(self):
        for m in range(3, 12):
            web = with_ties(ring_web(m + 1, list(range(m))), *[(place, m) for place in range(m)])
            self.check(web, "order" if m == 3 else "ring")
