"""Papers: what shows that no order of a web fills little."""

from fewfills.chords import is_bare, pairs_apart
from fewfills.numbers import is_whole
from fewfills.webs import rising_once


def with_tied(web, pair):
    return (web[0], rising_once(list(web[1]) + [pair]))


def begins_with(paper, word, parts):
    """Whether the thing is a tuple of so many parts, of which the word is the first."""
    if not isinstance(paper, tuple) or len(paper) != parts:
        return False
    return isinstance(paper[0], str) and paper[0] == word


def need_denies(web, k, ring):
    return is_bare(web, ring) and len(ring) - 3 > k


def chords_deny(web, k, ring, papers):
    if not is_bare(web, ring) or not isinstance(papers, tuple):
        return False
    pairs = pairs_apart(ring)
    if len(papers) != len(pairs):
        return False
    for pair, paper in zip(pairs, papers):
        # Left at the first that fails: going on through all of a nested paper could take very long.
        if not denies(with_tied(web, pair), k - 1, paper):
            return False
    return True


def denies(web, k, paper):
    if not is_whole(k) or k < 0:
        return False
    if begins_with(paper, "need", 2):
        return need_denies(web, k, paper[1])
    if begins_with(paper, "chords", 3):
        return chords_deny(web, k, paper[1], paper[2])
    return False
