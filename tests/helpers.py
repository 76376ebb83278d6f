"""What several tests share: webs and orders to go through, things of other kinds, and plain ways to find answers."""

from fractions import Fraction
from itertools import combinations, permutations
from random import Random

ONE, NOUGHT = (1, 1), (0, 1)
RING = (5, ((0, 1), (0, 4), (1, 2), (2, 3), (3, 4)))


class Stranger:
    """A thing that can be neither hashed nor compared."""

    __hash__ = None

    def __eq__(self, other):
        raise AssertionError("a thing of another kind was compared")

    def __lt__(self, other):
        raise AssertionError("a thing of another kind was compared")

    __gt__ = __le__ = __ge__ = __ne__ = __lt__


def odd_things():
    """Things that are no whole number, list or tuple; made anew at each call."""
    return [
        None, True, False, "", "0", "01", "web", b"", b"01", 0.0, 1.0, 1.5, 0j, {}, {0: 1}, {(0, 1): True},
        set(), {0, 1}, frozenset(), range(0), range(2), iter([]), object(), int, len, Stranger(),
    ]


def nested_lists():
    """Lists that hold what no promise speaks of, one of them itself."""
    ring = []
    ring.append(ring)
    return [ring, [[]], [()], [None], [Stranger()]]


def odd_places():
    """Things that are no place of five."""
    return odd_things() + nested_lists() + [-1, 5, 12, 10 ** 5000, (), (0,), [], [0]]


def odd_orders():
    """Things that are no order of five places."""
    made = odd_things() + nested_lists() + [
        0, 5, (), (0, 1, 2, 3, 4), "01234", [], [0, 1, 2, 3], [0, 1, 2, 3, 4, 5], [0, 1, 2, 3, 4, 4], [0, 1, 2, 3, 3],
        [0, 1, 2, 3, 5], [-1, 1, 2, 3, 4], [0, True, 2, 3, 4], [False, 1, 2, 3, 4], [0, 1.0, 2, 3, 4],
        [0, "1", 2, 3, 4], [0, None, 2, 3, 4], [0, (1,), 2, 3, 4], [0, [1], 2, 3, 4], [0, 1, 2, 3, 10 ** 5000],
    ]
    return made


def odd_numbers():
    """Things that are no number that may stand in a sheet."""
    made = [
        1, -1, 0, (0, 1), (0, 2), (2, 4), (3, 3), (1, 0), (0, 0), (1, -1), (-1, -2), (1,), (1, 1, 1), (), [1, 1], "1",
        (True, 1), (1, True), (1.0, 1), (1, 1.0), ("1", 1), (1, "1"), (None, 1), (1, None), ((1, 1), 1), ([1], 1), 0.5,
        (10 ** 5000, 10 ** 5000), (10 ** 5000, 10),
    ]
    return made + odd_things() + nested_lists()


def odd_parts():
    """Things that are no part of a row of three places."""
    made = [
        0, (), (0,), (0, ONE, ONE), (0, 1, 1), [0, ONE], [], ONE, ((0, ONE),), [(0, ONE)], (ONE, 0), {0: ONE},
        (3, ONE), (-1, ONE), (12, ONE), (10 ** 5000, ONE),
    ]
    for thing in odd_things() + nested_lists():
        made.extend([thing, (thing, ONE)])
    return made + [(0, thing) for thing in odd_numbers()]


def odd_numbers_written():
    """Words that are no number as it is written."""
    return [
        "", "-", "/", "+5", "+0", "-0", "00", "05", "-05", "007", "5/", "/5", "-/5", "5/1", "-5/1", "0/1", "0/5", "5/0",
        "5/00", "0/0", "2/4", "6/3", "-6/4", "5/5", "5/02", "05/2", "5/-2", "-5/-2", "5/+2", "+5/2", "--5", "5-", "5.0",
        "1.5", "5e1", "1_0", "0x5", "0b1", "a", "five", "5a", "a5", "5/a", "5/2/3", "5//2", "5|2", "5=2", "(5,1)",
        "None", "\t5", "5\t", "5,2", "5:", "1" + "0" * 60, "-1" + "0" * 60, "1/1" + "0" * 60, "1" * 61 + "/2",
        "1" * 5000, "-" + "1" * 5000, "1/" + "3" * 5000, "0" * 61, "0" * 5000,
    ]


def odd_places_written(n):
    """Words that are no place of n as it is written."""
    return ["", "-0", "-1", "+0", "00", "01", "a", ".", "0.0", "1/1", "0/1", str(n), "12", "13", "100", "1" * 61,
            "1" * 5000, "0" * 61, "0x0", "_0", "0_0", "\t0"]


def all_pairs(n):
    return list(combinations(range(n), 2))


def both_ways(ties):
    return {frozenset(tie) for tie in ties}


def ties_of(sets):
    return tuple(sorted(tuple(sorted(tie)) for tie in sets))


def ties_of_mask(n, mask):
    return tuple(pair for k, pair in enumerate(all_pairs(n)) if mask >> k & 1)


def webs_of(n, step=1):
    """Webs of n places, each step-th one of all."""
    return [(n, ties_of_mask(n, mask)) for mask in range(0, 2 ** len(all_pairs(n)), step)]


def orders_of(n, step=1):
    return [list(order) for k, order in enumerate(permutations(range(n))) if k % step == 0]


def webs_with_orders():
    """All webs of up to four places with all orders, and many greater ones."""
    for n in range(5):
        for web in webs_of(n):
            for order in orders_of(n):
                yield web, order
    # Steps that share nothing with how many there are, so that all places get their turn.
    for n, web_step, order_step in ((5, 7, 11), (6, 331, 37), (7, 17389, 397)):
        for web in webs_of(n, web_step):
            for order in orders_of(n, order_step):
                yield web, order


def great_webs_with_orders():
    """Webs of twelve places, some sparse and some dense, each with a few orders."""
    pairs = all_pairs(12)
    for stride in (2, 3, 4, 5, 7, 9, 13):
        for shift in range(3):
            web = (12, tuple(pairs[shift::stride]))
            for factor in (1, 5, 7, 11):
                yield web, [(place * factor + shift) % 12 for place in range(12)]


def shuffled(source, things):
    mixed = list(things)
    source.shuffle(mixed)
    return mixed


def drawn_web(source, n):
    """A web of n places, as dense as is drawn too."""
    ties = all_pairs(n)
    return (n, tuple(sorted(source.sample(ties, source.randint(0, len(ties))))))


def drawn_webs_with_orders(each=40):
    """Webs of 0 to 12 places with an order, always the same ones."""
    source = Random(8)
    for n in range(13):
        for _ in range(each):
            # Sparse ones are drawn more often: in dense ones hardly anything is left to come.
            web = min(drawn_web(source, n), drawn_web(source, n), key=lambda made: len(made[1]))
            yield web, shuffled(source, range(n))


def renamed(web, names):
    """The web with its places called otherwise."""
    return (web[0], ties_of(both_ways((names[a], names[b]) for a, b in web[1])))


def ring_web(n, ring):
    """The web of n places that has the ring's ties and no others."""
    return (n, ties_of(both_ways(zip(ring, ring[1:] + ring[:1]))))


def with_ties(web, *pairs):
    return (web[0], ties_of(both_ways(web[1]) | both_ways(pairs)))


def two_sides(left, right):
    """The web in which each of the first places is tied to each of the others."""
    return (left + right, tuple((a, b) for a in range(left) for b in range(left, left + right)))


def reached_from(web, start, passes):
    """The places to which a way leads from the start, all inner places of which pass."""
    ties = both_ways(web[1])
    reached, rim = {start}, [start]
    while rim:
        here = rim.pop()
        for there in range(web[0]):
            if there not in reached and frozenset((here, there)) in ties:
                reached.add(there)
                if passes(there):
                    rim.append(there)
    return reached


def tied_by_ways(web, order):
    """The pairs from one to the other of which a way leads through places struck ahead of both."""
    when = {place: k for k, place in enumerate(order)}
    found = []
    for a, b in all_pairs(web[0]):
        bound = min(when[a], when[b])
        if b in reached_from(web, a, lambda place: when[place] < bound):
            found.append((a, b))
    return tuple(found)


def game_of(web, order):
    """The game gone through: of each place the neighbours that are left when it is struck out, and the fill."""
    near = {place: set() for place in range(web[0])}
    for a, b in web[1]:
        near[a].add(b)
        near[b].add(a)
    met, come = {}, []
    for v in order:
        met[v] = near.pop(v)
        for a in met[v]:
            near[a].discard(v)
        for a, b in combinations(sorted(met[v]), 2):
            if b not in near[a]:
                come.append((a, b))
                near[a].add(b)
                near[b].add(a)
    return met, sorted(come)


def parents_by_game(web, order):
    met, _ = game_of(web, order)
    return [min(met[place], key=order.index, default=None) for place in range(web[0])]


def orders_keeping(source, tree, count):
    """Orders that strike each place ahead of its parent, drawn place by place."""
    for _ in range(count):
        order, left = [], list(range(len(tree)))
        while left:
            free = [place for place in left if not any(tree[other] == place for other in left)]
            order.append(source.choice(free))
            left.remove(order[-1])
        yield order


def is_bare_by_words(web, ring):
    """Whether a list of places, each once, is a bare ring: just those side by side in it are tied."""
    ties = both_ways(web[1])
    if len(ring) < 4 or len(set(ring)) < len(ring):
        return False
    for (k, a), (m, b) in combinations(enumerate(ring), 2):
        beside = m - k in (1, len(ring) - 1)
        if beside != (frozenset((a, b)) in ties):
            return False
    return True


def bare_rings_of(web, most=7):
    """All bare rings of the web of at most so many places, each once: the least first, then its lesser neighbour."""
    for m in range(4, min(web[0], most) + 1):
        for ring in permutations(range(web[0]), m):
            if ring[0] == min(ring) and ring[1] < ring[-1] and is_bare_by_words(web, ring):
                yield list(ring)


def denies_by_words(web, k, paper):
    """Whether the thing denies k, told from the words of the document alone."""
    if k < 0 or type(paper) is not tuple or len(paper) < 2 or type(paper[0]) is not str:
        return False
    ring = paper[1]
    if type(ring) is not list or not all(type(place) is int and 0 <= place < web[0] for place in ring):
        return False
    if not is_bare_by_words(web, ring):
        return False
    if len(paper) == 2:
        return paper[0] == "need" and len(ring) - 3 > k
    if len(paper) != 3 or paper[0] != "chords" or type(paper[2]) is not tuple:
        return False
    # Nothing within the ring is tied but what stands side by side, so all other pairs are those that are due.
    pairs = [pair for pair in combinations(sorted(ring), 2) if pair not in web[1]]
    if len(paper[2]) != len(pairs):
        return False
    return all(denies_by_words(with_ties(web, pair), k - 1, one) for pair, one in zip(pairs, paper[2]))


def as_number(fraction):
    return (fraction.numerator, fraction.denominator)


def drawn_number(source, figures=1):
    """A number other than nought, with tops and bottoms of at most so many figures."""
    top = source.choice((-1, 1)) * source.randint(1, 10 ** figures - 1)
    return as_number(Fraction(top, source.randint(1, 10 ** figures - 1)))


def drawn_sheet(source, web, figures=1, empty=0.0):
    """A sheet in the shape of the web: at each tie a number one way or both ways; some in the middle are nought."""
    rows = [[] for _ in range(web[0])]
    for v in range(web[0]):
        if source.random() >= empty:
            rows[v].append((v, drawn_number(source, figures)))
    for a, b in web[1]:
        for i, j in source.choice((((a, b),), ((b, a),), ((a, b), (b, a)), ((a, b), (b, a)))):
            rows[i].append((j, drawn_number(source, figures)))
    return (web[0], tuple(tuple(sorted(row)) for row in rows))


def drawn_sheets_with_orders(each=20, figures=1, empty=0.0, seed=21):
    """Sheets of 0 to 12 places with an order, always the same ones."""
    source = Random(seed)
    for web, order in drawn_webs_with_orders(each):
        yield drawn_sheet(source, web, figures, empty), order


def square_of(sheet):
    """All numbers of the sheet, noughts too, as fractions."""
    square = [[Fraction(0)] * sheet[0] for _ in range(sheet[0])]
    for i, row in enumerate(sheet[1]):
        for j, number in row:
            square[i][j] = Fraction(*number)
    return square


def sheet_of_square(square):
    rows = [tuple((j, as_number(one)) for j, one in enumerate(row) if one) for row in square]
    return (len(square), tuple(rows))


def shape_of(sheet):
    """The sheet's web, by its square."""
    square = square_of(sheet)
    return (sheet[0], tuple((a, b) for a, b in all_pairs(sheet[0]) if square[a][b] or square[b][a]))


def work_by_words(sheet, order):
    """The work gone through with fractions, all numbers of each row; where a pivot is nought its place instead."""
    square, work = square_of(sheet), []
    for k, v in enumerate(order):
        later, column = sorted(order[k + 1:]), []
        if not square[v][v]:
            return v
        for i in later:
            if square[i][v]:
                factor = square[i][v] / square[v][v]
                square[i] = [one - factor * other for one, other in zip(square[i], square[v])]
                column.append((i, as_number(factor)))
        row = tuple((j, as_number(square[v][j])) for j in later if square[v][j])
        work.append((v, as_number(square[v][v]), row, tuple(column)))
    return work


def numbers_within(thing):
    """The things at the ends of lists and tuples."""
    if isinstance(thing, (list, tuple)):
        return [end for inner in thing for end in numbers_within(inner)]
    return [thing]
