"""What several tests share: webs and orders to go through, and things of other kinds."""

from itertools import combinations, permutations


class Stranger:
    """A thing that can be neither hashed nor compared."""

    __hash__ = None

    def __eq__(self, other):
        raise AssertionError("a thing of another kind was compared")

    def __lt__(self, other):
        raise AssertionError("a thing of another kind was compared")

    __gt__ = __le__ = __ge__ = __ne__ = __lt__


def odd_things():
    """Things that are no whole number, list or tuple; made anew at each call."""
    return [
        None, True, False, "", "0", "01", "web", b"", b"01", 0.0, 1.0, 1.5, 0j, {}, {0: 1}, {(0, 1): True},
        set(), {0, 1}, frozenset(), range(0), range(2), iter([]), object(), int, len, Stranger(),
    ]


def nested_lists():
    """Lists that hold what no promise speaks of, one of them itself."""
    ring = []
    ring.append(ring)
    return [ring, [[]], [()], [None], [Stranger()]]


def all_pairs(n):
    return list(combinations(range(n), 2))


def ties_of_mask(n, mask):
    return tuple(pair for k, pair in enumerate(all_pairs(n)) if mask >> k & 1)


def webs_of(n, step=1):
    """Webs of n places, each step-th one of all."""
    return [(n, ties_of_mask(n, mask)) for mask in range(0, 2 ** len(all_pairs(n)), step)]


def orders_of(n, step=1):
    return [list(order) for k, order in enumerate(permutations(range(n))) if k % step == 0]


def webs_with_orders():
    """All webs of up to four places with all orders, and many greater ones."""
    for n in range(5):
        for web in webs_of(n):
            for order in orders_of(n):
                yield web, order
    # Steps that share nothing with how many there are, so that all places get their turn.
    for n, web_step, order_step in ((5, 7, 11), (6, 331, 37), (7, 17389, 397)):
        for web in webs_of(n, web_step):
            for order in orders_of(n, order_step):
                yield web, order


def great_webs_with_orders():
    """Webs of twelve places, some sparse and some dense, each with a few orders."""
    pairs = all_pairs(12)
    for stride in (2, 3, 4, 5, 7, 9, 13):
        for shift in range(3):
            web = (12, tuple(pairs[shift::stride]))
            for factor in (1, 5, 7, 11):
                yield web, [(place * factor + shift) % 12 for place in range(12)]
