"""Points 12 and 13: which papers deny which numbers, and that no order fills as little as a paper denies."""

import unittest
from itertools import combinations
from random import Random

from fewfills.papers import denies
from tests.helpers import (
    all_pairs, bare_rings_of, denies_by_words, drawn_web, game_of, nested_lists, odd_things, orders_of, ring_web,
    two_sides, webs_of, with_ties,
)

FOUR = ring_web(4, [0, 1, 2, 3])
FIVE = ring_web(5, [0, 1, 2, 3, 4])
SIX = ring_web(6, [0, 1, 2, 3, 4, 5])

# By the pairs (0, 2), (0, 3), (1, 3), (1, 4), (2, 4): the ring of four that each of them leaves.
FIVE_PAPER = ("chords", [0, 1, 2, 3, 4], (
    ("need", [0, 2, 3, 4]), ("need", [0, 1, 2, 3]), ("need", [0, 1, 3, 4]), ("need", [1, 2, 3, 4]),
    ("need", [0, 1, 2, 4]),
))


def numbers_denied(web, paper, most=12):
    return [k for k in range(-3, most) if denies(web, k, paper)]


def turned_by_draw(source, ring):
    k = source.randrange(len(ring))
    same = ring[k:] + ring[:k]
    return same if source.randrange(2) else same[::-1]


def drawn_paper(source, web, k):
    """A paper against k, from any bare rings of the web; None where the rings drawn lead to none."""
    rings = list(bare_rings_of(web, 6))
    if k < 0 or not rings:
        return None
    ring = turned_by_draw(source, source.choice(rings))
    if len(ring) - 3 > k and (k == 0 or source.randrange(3)):
        return ("need", ring)
    papers = []
    for pair in combinations(sorted(ring), 2):
        if pair not in web[1]:
            papers.append(drawn_paper(source, with_ties(web, pair), k - 1))
            if papers[-1] is None:
                return None
    return ("chords", ring, tuple(papers))


def bent_leaves(thing):
    if isinstance(thing, str):
        return ["", thing.upper(), thing + " ", thing[:-1], "need", "chords", b"need", [thing], (thing,)]
    if isinstance(thing, int):
        return [thing + 1, thing - 1, thing + 12, -1, str(thing), float(thing), bool(thing), (thing,), [thing]]
    return []


def bent(thing):
    """The thing bent by one thing, at any depth, in each of many ways."""
    yield from bent_leaves(thing)
    if not isinstance(thing, (list, tuple)):
        return
    kind, things = type(thing), list(thing)
    yield tuple(things) if kind is list else things
    yield kind(things + things[:1])
    yield kind(things[::-1])
    for k, inner in enumerate(things):
        yield kind(things[:k] + things[k + 1:])
        yield kind(things[:k] + [inner] + things[k:])
        yield kind(things[:k] + [None] + things[k + 1:])
        yield kind([inner] + things[:k] + things[k + 1:])
        for other in bent(inner):
            yield kind(things[:k] + [other] + things[k + 1:])


def least_by_orders(web):
    return min(len(game_of(web, order)[1]) for order in orders_of(web[0]))


def deep_paper(side):
    """A web of two sides, each pair of the one with a pair of the other in a ring, and a paper through all of them."""
    web = two_sides(side, side)
    rings = []
    for a, b in all_pairs(side):
        rings.append([a, a + side, b, b + side])
    paper = ("need", rings[0])
    for ring in rings[1:]:
        paper = ("chords", ring, (paper, paper))
    return web, paper, len(rings)


class Need(unittest.TestCase):
    def test_round_the_bound(self):
        for m in range(4, 13):
            ring = list(range(m))
            for n in (m, 12):
                self.assertEqual(numbers_denied(ring_web(n, ring), ("need", ring)), list(range(m - 3)))

    def test_far_from_the_bound(self):
        ring = list(range(12))
        for k in (-1, -2, -12, -10 ** 6, 9, 10, 13, 10 ** 6, 10 ** 50):
            self.assertIs(denies(ring_web(12, ring), k, ("need", ring)), False)
        self.assertIs(denies(ring_web(12, ring), 8, ("need", ring)), True)
        self.assertIs(denies(ring_web(12, ring), 0, ("need", ring)), True)

    def test_turned_and_from_behind(self):
        for ring in ([1, 2, 3, 4, 0], [4, 3, 2, 1, 0], [2, 1, 0, 4, 3]):
            self.assertEqual(numbers_denied(FIVE, ("need", ring)), [0, 1])

    def test_what_is_no_bare_ring(self):
        chord = with_ties(FIVE, (1, 3))
        self.assertEqual(numbers_denied(chord, ("need", [0, 1, 2, 3, 4])), [])
        self.assertEqual(numbers_denied(chord, ("need", [0, 1, 3, 4])), [0])
        self.assertEqual(numbers_denied(chord, ("need", [1, 2, 3])), [])
        for ring in ([], [0, 2, 1, 3, 4], [0, 1, 2, 3], [0, 1, 2, 3, 4, 4], [0, 1, 2, 3, 5], (0, 1, 2, 3, 4), "01234",
                     [0, True, 2, 3, 4], [False, 1, 2, 3, 4], None):
            self.assertEqual(numbers_denied(FIVE, ("need", ring)), [])

    def test_a_truth_is_no_whole_number(self):
        self.assertIs(denies(FIVE, 0, ("need", [0, 1, 2, 3, 4])), True)
        self.assertIs(denies(FIVE, 1, ("need", [0, 1, 2, 3, 4])), True)
        self.assertIs(denies(FIVE, False, ("need", [0, 1, 2, 3, 4])), False)
        self.assertIs(denies(FIVE, True, ("need", [0, 1, 2, 3, 4])), False)


class Chords(unittest.TestCase):
    def test_by_hand(self):
        self.assertEqual(numbers_denied(FIVE, FIVE_PAPER), [1])

    def test_never_0(self):
        inner = ("need", [0, 1, 2, 3])
        for papers in ((), (inner,), (inner, inner)):
            self.assertEqual(numbers_denied(FOUR, ("chords", [0, 1, 2, 3], papers)), [])

    def test_each_paper_stands_for_its_own_pair(self):
        ring, papers = FIVE_PAPER[1:]
        for k, m in combinations(range(5), 2):
            others = list(papers)
            others[k], others[m] = others[m], others[k]
            self.assertIs(denies(FIVE, 1, ("chords", ring, tuple(others))), False)

    def test_the_pairs_rise_however_the_ring_is_turned(self):
        papers = FIVE_PAPER[2]
        for ring in ([3, 4, 0, 1, 2], [1, 0, 4, 3, 2]):
            self.assertEqual(numbers_denied(FIVE, ("chords", ring, papers)), [1])
        # Named otherwise, the rising pairs are others than those in the order of the ring.
        web, ring = ring_web(5, [0, 3, 1, 4, 2]), [0, 3, 1, 4, 2]
        left = {(0, 1): [0, 1, 4, 2], (0, 4): [0, 3, 1, 4], (1, 2): [0, 3, 1, 2], (2, 3): [3, 1, 4, 2],
                (3, 4): [0, 3, 4, 2]}
        papers = tuple(("need", left[pair]) for pair in sorted(left))
        self.assertEqual(numbers_denied(web, ("chords", ring, papers)), [1])
        self.assertEqual(numbers_denied(web, ("chords", ring, papers[::-1])), [])

    def test_one_paper_fewer_or_more(self):
        ring, papers = FIVE_PAPER[1:]
        for k in range(5):
            self.assertIs(denies(FIVE, 1, ("chords", ring, papers[:k] + papers[k + 1:])), False)
            self.assertIs(denies(FIVE, 1, ("chords", ring, papers[:k] + papers[k:k + 1] + papers[k:])), False)
        self.assertIs(denies(FIVE, 1, ("chords", ring, papers + (None,))), False)
        self.assertIs(denies(FIVE, 1, ("chords", ring, ())), False)

    def test_each_paper_is_asked(self):
        ring, papers = FIVE_PAPER[1:]
        for k in range(5):
            for thing in odd_things() + nested_lists() + [(), ("need",), ("need", ring), FIVE_PAPER, 0, 1]:
                others = papers[:k] + (thing,) + papers[k + 1:]
                self.assertIs(denies(FIVE, 1, ("chords", ring, others)), False)

    def test_papers_are_a_tuple(self):
        ring, papers = FIVE_PAPER[1:]
        for thing in [list(papers), dict.fromkeys(range(5)), iter(papers)] + odd_things() + nested_lists() + [5, ()]:
            self.assertIs(denies(FIVE, 1, ("chords", ring, thing)), False)

    def test_the_ring_is_bare(self):
        # With (1, 3) tied the ring is not bare, though each of the papers would do.
        chord = with_ties(FIVE, (1, 3))
        self.assertEqual(numbers_denied(chord, FIVE_PAPER), [])
        self.assertEqual(numbers_denied(FIVE, ("chords", tuple(range(5)), FIVE_PAPER[2])), [])

    def test_nested(self):
        def five(ring):
            pairs = [pair for pair in combinations(sorted(ring), 2) if pair not in ring_web(6, ring)[1]]
            rings = [next(bare_rings_of(with_ties(ring_web(6, ring), pair))) for pair in pairs]
            return ("chords", ring, tuple(("need", one) for one in rings))

        across = {
            (0, 3): ([0, 1, 2, 3], [0, 3, 4, 5]), (1, 4): ([1, 2, 3, 4], [0, 1, 4, 5]),
            (2, 5): ([2, 3, 4, 5], [0, 1, 2, 5]),
        }
        papers = []
        for pair in all_pairs(6):
            if pair in across:
                first, second = across[pair]
                papers.append(("chords", first, (("need", second), ("need", second))))
            elif pair not in SIX[1]:
                cut = next(place for place in range(6) if with_ties(SIX, pair) == with_ties(
                    SIX, ((place - 1) % 6, (place + 1) % 6)))
                papers.append(five([place for place in range(6) if place != cut]))
        paper = ("chords", [0, 1, 2, 3, 4, 5], tuple(papers))
        self.assertEqual([one[0] for one in papers], ["chords"] * 9)
        self.assertEqual(numbers_denied(SIX, paper), [2])
        self.assertEqual(numbers_denied(SIX, ("need", [0, 1, 2, 3, 4, 5])), [0, 1, 2])

    def test_pairs_that_were_tied_stay_tied_further_in(self):
        # Each inner paper must hold with all pairs tied that lie on the way to it.
        web, paper, count = deep_paper(3)
        self.assertEqual(numbers_denied(web, paper), [count - 1])
        twice = ("chords", [0, 3, 1, 4], (paper, paper))
        self.assertEqual(numbers_denied(web, twice), [])

    def test_deep_ones(self):
        for side in (3, 4, 5, 6):
            web, paper, count = deep_paper(side)
            self.assertIs(denies(web, count - 1, paper), True)
            self.assertIs(denies(web, count, paper), False)
            self.assertIs(denies(web, count - 2, paper), False)


class Things(unittest.TestCase):
    def test_of_any_kind(self):
        ring = [0, 1, 2, 3]
        things = odd_things() + nested_lists() + [
            0, 1, 10 ** 5000, (), [], ((),), ("need",), ("chords",), ("need", ring, ()), ("need", ring, ring),
            ["need", ring], ("need", [ring]), ("need", (ring,)), (("need", ring),), [("need", ring)], (ring, "need"),
            ("ring", ring), ("", ring), ("Need", ring), ("needs", ring), ("need ", ring), (b"need", ring),
            (("need",), ring), (None, ring), (ring, ring), ("chords", ring), ("chords", ring, (), ()), "need", "chords",
            {"need": ring}, {0: "need", 1: ring}, ("order", ring),
        ]
        for thing in things:
            for k in (-1, 0, 1, 2):
                self.assertIs(denies(FOUR, k, thing), False)
        self.assertIs(denies(FOUR, 0, ("need", ring)), True)

    def test_parts_of_any_kind(self):
        ring = [0, 1, 2, 3]
        for thing in odd_things() + nested_lists() + [0, 4, (), [], (0, 1, 2, 3)]:
            for paper in ((thing, ring), ("need", thing), (thing, ring, ()), ("chords", thing, ()),
                          ("chords", ring, thing), ("chords", ring, (thing, thing)), (thing, thing, thing), (thing,)):
                for k in (-1, 0, 1):
                    self.assertIs(denies(FOUR, k, paper), False)

    def test_thirty_deep(self):
        ring = [0, 1, 2, 3]
        need = ("need", ring)
        for nest in (
            lambda inner: (inner,), lambda inner: [inner], lambda inner: {"need": inner}, lambda inner: (inner, inner),
            lambda inner: ("need", inner), lambda inner: ("need", [inner]), lambda inner: ("chords", ring, inner),
            lambda inner: ("chords", ring, (inner,)), lambda inner: ("chords", ring, (inner, inner)),
            lambda inner: ("chords", inner, (inner, inner)), lambda inner: ("chords", ring, (need, inner)),
            lambda inner: ("chords", ring, [inner, inner]),
        ):
            for thing in (need, ring, (), None):
                for _ in range(30):
                    thing = nest(thing)
                for k in (-1, 0, 1, 2, 15, 29, 30, 31, 40):
                    self.assertIs(denies(FOUR, k, thing), False)

    def test_webs_without_bare_rings(self):
        for web in ((0, ()), (1, ()), (12, ()), (3, tuple(all_pairs(3))), (4, tuple(all_pairs(4)))):
            for paper in (("need", [0, 1, 2, 3]), ("need", [0, 1, 2]), ("need", []), ("chords", [], ()),
                          ("chords", [0, 1, 2], ()), FIVE_PAPER, None):
                self.assertEqual(numbers_denied(web, paper), [])

    def test_bent_by_one_thing(self):
        denied = total = 0
        web, paper, count = deep_paper(3)
        for web, k, paper in ((FIVE, 1, FIVE_PAPER), (FIVE, 1, ("need", [0, 1, 2, 3, 4])), (web, count - 1, paper)):
            self.assertIs(denies(web, k, paper), True)
            for other in bent(paper):
                told = denies(web, k, other)
                self.assertIs(told, denies_by_words(web, k, other), other)
                denied += told
                total += 1
        self.assertGreater(total, 1000)
        self.assertLess(denied * 10, total)


class NoOrderFillsSoLittle(unittest.TestCase):
    """Point 13, with papers drawn from any bare rings, and with bent ones."""

    def check(self, web, k, paper, number):
        told = denies(web, k, paper)
        self.assertIs(told, denies_by_words(web, k, paper), (web, k, paper))
        if told:
            self.assertGreater(number, k, (web, paper))
        return told

    def test_small_webs(self):
        source = Random(14)
        denied = nested = 0
        # Those at the end have a least of 2 or 3, so that papers nest.
        filling = [FIVE, SIX, with_ties(SIX, (0, 3)), two_sides(3, 3)] * 8
        for web in webs_of(4) + webs_of(5, 3) + webs_of(6, 499) + filling:
            number = least_by_orders(web)
            for k in range(-1, number + 2):
                paper = drawn_paper(source, web, k)
                if paper is not None:
                    denied += self.check(web, k, paper, number)
                    nested += paper[0] == "chords"
                    self.check(web, k + 1, paper, number)
                    self.check(web, k - 1, paper, number)
        self.assertGreater(denied, 100)
        self.assertGreater(nested, 20)

    def test_bent_papers_and_other_webs(self):
        source = Random(15)
        papers = []
        for _ in range(400):
            web = drawn_web(source, 6)
            k = source.randrange(3)
            paper = drawn_paper(source, web, k)
            if paper is not None and len(papers) < 25:
                papers.append((web, k, paper))
        self.assertEqual(len(papers), 25)
        for web, k, paper in papers:
            number = least_by_orders(web)
            self.assertTrue(self.check(web, k, paper, number))
            for other in list(bent(paper))[::7]:
                self.check(web, k, other, number)
                self.check(web, k + 1, other, number)
            for other, _, _ in papers:
                self.check(other, k, paper, least_by_orders(other) if denies(other, k, paper) else None)
