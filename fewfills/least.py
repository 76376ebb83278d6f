"""The least fill of a small web, with an order that has it and a paper that denies less."""

from fewfills.chords import bare_ring, pairs_apart
from fewfills.errors import TooMany
from fewfills.game import new_pairs, struck_out
from fewfills.papers import with_tied

MOST_PLACES_HERE = 7


def best_beginning(web, left, v, known):
    """What best_of tells, of the orders alone that begin with v."""
    others = tuple([place for place in left if place != v])
    behind = best_of(struck_out(web, left, v), others, known)
    return (len(new_pairs(web, left, v)) + behind[0], [v] + behind[1])


def best_of(web, left, known):
    """The least number of pairs that come when the places left are struck out, and an order of them with so many."""
    # The web that is left hangs on which places are struck out, not on their order: so one answer for each is kept.
    if left not in known:
        known[left] = min([best_beginning(web, left, v, known) for v in left], default=(0, []))
    return known[left]


def paper_against(web, k):
    """A paper that denies k, of a web each order of which fills more; None where k is below 0."""
    if k < 0:
        return None
    ring = bare_ring(web)
    if len(ring) - 3 > k:
        return ("need", ring)
    # Each order's filled web has one of these pairs tied, so with it tied all fill more than k - 1 pairs.
    papers = [paper_against(with_tied(web, pair), k - 1) for pair in pairs_apart(ring)]
    return ("chords", ring, tuple(papers))


def least(web):
    if web[0] > MOST_PLACES_HERE:
        raise TooMany("the least is told of at most seven places")
    best = best_of(web, tuple(range(web[0])), {})
    return (best[0], best[1], paper_against(web, best[0] - 1))
