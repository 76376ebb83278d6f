"""Points 22 and 23: answers, mixes and ways of rows, and what is told of them."""

import unittest
from fractions import Fraction
from random import Random

from fewfills.answers import answer, holds, is_answer, is_mix, is_way
from tests.helpers import as_number, drawn_number, numbers_within, shuffled

ONE, NOUGHT, TWO = (1, 1), (0, 1), (2, 1)


def at(row, place):
    return Fraction(*dict(row[0]).get(place, NOUGHT))


def total(rows, mix, place):
    return sum((at(row, place) * Fraction(*number) for row, number in zip(rows, mix)), Fraction(0))


def side(row, x):
    return sum((Fraction(*number) * Fraction(*x[j]) for j, number in row[0]), Fraction(0))


def answers_by_words(rows, x):
    return all(side(row, x) == Fraction(*row[1]) for row in rows)


def way_by_words(rows, way):
    return all(side(row, way) == 0 for row in rows)


def mix_by_words(n, rows, mix):
    rights = sum((Fraction(*row[1]) * Fraction(*number) for row, number in zip(rows, mix)), Fraction(0))
    return rights == 1 and all(total(rows, mix, place) == 0 for place in range(n))


def holds_by_words(n, rows, free, place, mix):
    return all(total(rows, mix, j) == (j == place) for j in range(n) if j not in free)


def rank(lists):
    """The rank of lists of fractions, all of one length."""
    left, found = [list(one) for one in lists], 0
    while left:
        one = left.pop()
        place = next((j for j, number in enumerate(one) if number), None)
        if place is not None:
            found += 1
            left = [[a - other[place] / one[place] * b for a, b in zip(other, one)] for other in left]
    return found


def row_of(numbers, right):
    parts = tuple((j, as_number(one)) for j, one in enumerate(numbers) if one)
    return (parts, as_number(Fraction(right)))


def drawn_fractions(source, n, figures, dense):
    return [Fraction(*drawn_number(source, figures)) if source.random() < dense else Fraction(0) for _ in range(n)]


def drawn_rows(source, n, count, figures=1, bound=None, dense=0.6):
    """Rows of n unknowns that come together from at most bound others, with right sides of an answer."""
    base = [drawn_fractions(source, n, figures, dense) for _ in range(count if bound is None else bound)]
    x = [as_number(one) for one in drawn_fractions(source, n, figures, 0.8)]
    rows = []
    for k in range(count):
        if bound is None:
            numbers = base[k]
        else:
            weights = [source.randint(-2, 2) for _ in base]
            numbers = [sum((w * one[j] for w, one in zip(weights, base)), Fraction(0)) for j in range(n)]
        row = row_of(numbers, 0)
        rows.append(row_of(numbers, side(row, x)))
    return rows, x


def bent_rights(source, rows):
    """The rows with one right side changed."""
    k = source.randrange(len(rows))
    right = as_number(Fraction(*rows[k][1]) + Fraction(*drawn_number(source)))
    return rows[:k] + [(rows[k][0], right)] + rows[k + 1:]


def many_rows():
    source = Random(41)
    for n in range(13):
        yield n, []
        for count in (1, 2, n // 2, n, n + 1, 20):
            rows, _ = drawn_rows(source, n, count)
            yield n, rows
            for bound in (1, max(n - 2, 0), n):
                rows, _ = drawn_rows(source, n, count, bound=bound)
                yield n, rows
                if rows:
                    yield n, bent_rights(source, rows)
    for n, count in ((5, 7), (8, 8), (12, 20), (12, 9)):
        yield n, drawn_rows(source, n, count, figures=6, dense=1)[0]


class Looked(unittest.TestCase):
    """Looks at what is told by the words of point 23."""

    def look(self, n, rows):
        told = answer(n, rows)
        self.assertIs(type(told), tuple)
        left = [[at(row, j) for j in range(n)] for row in rows]
        whole = [one + [Fraction(*row[1])] for one, row in zip(left, rows)]
        if rank(left) < rank(whole):
            self.assertEqual((len(told), told[0]), (2, "none"))
            self.look_at_list(told[1], len(rows))
            self.assertTrue(mix_by_words(n, rows, told[1]), rows)
            self.assertIs(is_mix(n, rows, told[1]), True)
            return told
        self.look_at_list(told[1], n)
        self.assertTrue(answers_by_words(rows, told[1]), rows)
        self.assertIs(is_answer(rows, told[1]), True)
        if rank(left) == n:
            self.assertEqual((len(told), told[0]), (3, "one"))
            self.look_at_mixes(n, rows, [], told[2])
        else:
            self.assertEqual((len(told), told[0]), (4, "many"))
            self.assertEqual(len(told[2]), n - rank(left))
            self.look_at_ways(n, rows, told[1], told[2])
            self.look_at_mixes(n, rows, [free for free, _ in told[2]], told[3])
        return told

    def look_at_list(self, numbers, count):
        self.assertIs(type(numbers), list)
        self.assertEqual(len(numbers), count)
        self.assertEqual(numbers, [as_number(Fraction(*number)) for number in numbers])
        self.assertLessEqual({type(end) for end in numbers_within(numbers)}, {int})

    def look_at_ways(self, n, rows, x, ways):
        self.assertIs(type(ways), list)
        frees = [free for free, _ in ways]
        self.assertEqual(frees, sorted(set(frees)))
        self.assertLessEqual(set(frees), set(range(n)))
        for pair in ways:
            self.assertEqual([type(pair), type(pair[0])], [tuple, int])
            self.look_at_list(pair[1], n)
            self.assertTrue(way_by_words(rows, pair[1]), rows)
            self.assertIs(is_way(rows, pair[1]), True)
            self.assertEqual([pair[1][free] for free in frees], [ONE if free == pair[0] else NOUGHT for free in frees])
        self.assertEqual([x[free] for free in frees], [NOUGHT] * len(frees))

    def look_at_mixes(self, n, rows, frees, mixes):
        self.assertIs(type(mixes), list)
        places = [place for place in range(n) if place not in frees]
        self.assertEqual(len(mixes), len(places))
        for place, mix in zip(places, mixes):
            self.look_at_list(mix, len(rows))
            self.assertTrue(holds_by_words(n, rows, frees, place, mix), rows)
            self.assertIs(holds(n, rows, frees, place, mix), True)


class Told(Looked):
    def test_by_hand(self):
        rows = [(((0, ONE), (1, TWO)), (3, 1)), (((0, TWO), (1, (4, 1))), (6, 1)), (((0, ONE),), (1, 2))]
        self.assertEqual(answer(2, rows)[:2], ("one", [(1, 2), (5, 4)]))
        self.assertEqual(answer(2, rows[:2])[0], "many")
        self.assertEqual(answer(2, rows[:1] + [(((0, TWO), (1, (4, 1))), (5, 1))]), ("none", [(2, 1), (-1, 1)]))
        self.assertEqual(answer(1, [(((0, (3, 4)),), (-1, 2))]), ("one", [(-2, 3)], [[(4, 3)]]))

    def test_no_rows(self):
        self.assertEqual(answer(0, []), ("one", [], []))
        for n in range(1, 13):
            units = [(free, [ONE if j == free else NOUGHT for j in range(n)]) for free in range(n)]
            self.assertEqual(answer(n, []), ("many", [NOUGHT] * n, units, []))

    def test_rows_without_parts(self):
        self.assertEqual(answer(0, [((), NOUGHT)]), ("one", [], []))
        self.assertEqual(answer(0, [((), (-2, 3))]), ("none", [(-3, 2)]))
        self.assertEqual(answer(0, [((), NOUGHT), ((), (5, 1))]), ("none", [NOUGHT, (1, 5)]))
        self.assertEqual(answer(1, [((), NOUGHT)]), ("many", [NOUGHT], [(0, [ONE])], []))
        self.assertEqual(answer(1, [(((0, TWO),), (4, 1)), ((), NOUGHT)]), ("one", [TWO], [[(1, 2), NOUGHT]]))
        self.assertEqual(answer(2, [((), ONE)]), ("none", [ONE]))

    def test_by_the_points_own_words(self):
        seen = {"one": 0, "none": 0, "many": 0}
        for n, rows in many_rows():
            seen[self.look(n, rows)[0]] += 1
        for kind in seen:
            self.assertGreater(seen[kind], 50, seen)

    def test_the_only_answer_is_the_one_from_which_the_rows_were_made(self):
        source = Random(42)
        only = 0
        for n in range(13):
            for count in (n, n + 1, 20):
                rows, x = drawn_rows(source, n, count, figures=2, dense=0.9)
                told = self.look(n, rows)
                if told[0] == "one":
                    self.assertEqual(told[1], x)
                    only += 1
        self.assertGreater(only, 25)

    def test_all_answers_are_spanned(self):
        source = Random(43)
        for n in range(2, 13):
            rows, x = drawn_rows(source, n, n, bound=n // 2)
            kind, told, ways, _ = self.look(n, rows)
            self.assertEqual(kind, "many")
            self.assertTrue(answers_by_words(rows, x))
            reached = [Fraction(*number) for number in told]
            for free, way in ways:
                reached = [one + Fraction(*x[free]) * Fraction(*other) for one, other in zip(reached, way)]
            self.assertEqual([as_number(one) for one in reached], x)

    def test_another_order_and_rows_times_a_number(self):
        source = Random(44)
        for n, rows in list(many_rows())[::3]:
            told = answer(n, rows)
            scaled = []
            for parts, right in shuffled(source, rows):
                factor = Fraction(*drawn_number(source, 2))
                numbers = [at((parts, right), j) * factor for j in range(n)]
                scaled.append(row_of(numbers, Fraction(*right) * factor))
            again = self.look(n, scaled)
            self.assertEqual(again[0], told[0])
            if told[0] == "one":
                self.assertEqual(again[1], told[1])
            if told[0] == "many":
                self.assertEqual(len(again[2]), len(told[2]))

    def test_rows_told_twice(self):
        source = Random(45)
        for n in (1, 4, 9):
            rows, _ = drawn_rows(source, n, min(n, 10))
            told, again = self.look(n, rows), self.look(n, rows + rows)
            self.assertEqual(again[:2], told[:2])

    def test_great_numbers(self):
        source = Random(46)
        for n, figures in ((1, 500), (2, 300), (3, 150), (4, 60)):
            rows, x = drawn_rows(source, n, n + 1, figures=figures, dense=1)
            self.assertEqual(self.look(n, rows)[:2], ("one", x))
            self.assertEqual(self.look(n, bent_rights(source, rows))[0], "none")


def changed_once(source, numbers):
    """The list with one number changed."""
    k = source.randrange(len(numbers))
    number = as_number(Fraction(*numbers[k]) + Fraction(*drawn_number(source)))
    return numbers[:k] + [number] + numbers[k + 1:]


def made_with_mix(source, n, count, figures):
    """Rows with a mix of them that comes to nought and 1."""
    mix = [Fraction(*drawn_number(source, figures)) for _ in range(count)]
    lists = [drawn_fractions(source, n + 1, figures, 0.7) for _ in range(count - 1)]
    wanted = [Fraction(0)] * n + [Fraction(1)]
    last = [want - sum((m * one[j] for m, one in zip(mix, lists)), Fraction(0)) for j, want in enumerate(wanted)]
    lists.append([one / mix[-1] for one in last])
    return [row_of(one[:n], one[n]) for one in lists], [as_number(m) for m in mix]


class Asked(unittest.TestCase):
    """The questions of point 22, of things made so that they are, and with one number of them changed."""

    def test_by_hand(self):
        rows = [(((0, ONE), (2, (1, 2))), (3, 1)), (((1, TWO),), NOUGHT)]
        self.assertIs(is_answer(rows, [TWO, NOUGHT, TWO]), True)
        self.assertIs(is_answer(rows, [TWO, NOUGHT, ONE]), False)
        self.assertIs(is_answer(rows, [TWO, ONE, TWO]), False)
        self.assertIs(is_way(rows, [(-1, 1), NOUGHT, TWO]), True)
        self.assertIs(is_way(rows, [TWO, NOUGHT, TWO]), False)
        self.assertIs(is_way(rows, [NOUGHT] * 3), True)
        self.assertIs(is_mix(3, rows, [NOUGHT, NOUGHT]), False)
        self.assertIs(is_mix(3, rows, [(1, 3), NOUGHT]), False)
        self.assertIs(holds(3, rows, [2], 0, [ONE, NOUGHT]), True)
        self.assertIs(holds(3, rows, [], 0, [ONE, NOUGHT]), False)
        self.assertIs(holds(3, rows, [0], 2, [TWO, NOUGHT]), True)
        self.assertIs(holds(3, rows, [0], 2, [ONE, NOUGHT]), False)
        self.assertIs(holds(3, rows, [0, 2], 1, [(7, 1), (1, 2)]), True)
        self.assertIs(holds(3, rows, [0], 1, [(7, 1), (1, 2)]), False)
        pair = [(((0, ONE), (1, TWO)), (3, 1)), (((0, TWO), (1, (4, 1))), (5, 1))]
        self.assertIs(is_mix(2, pair, [TWO, (-1, 1)]), True)
        self.assertIs(is_mix(2, pair, [(4, 1), (-2, 1)]), False)
        self.assertIs(is_mix(2, pair, [(-2, 1), ONE]), False)

    def test_no_rows_and_no_unknowns(self):
        for n in range(4):
            self.assertIs(is_answer([], [TWO] * n), True)
            self.assertIs(is_way([], [TWO] * n), True)
            self.assertIs(is_mix(n, [], []), False)
            for place in range(n):
                self.assertIs(holds(n, [], [], place, []), False)
                self.assertIs(holds(n, [], [j for j in range(n) if j != place], place, []), False)
        self.assertIs(is_answer([((), NOUGHT)], []), True)
        self.assertIs(is_answer([((), ONE)], []), False)
        self.assertIs(is_way([((), ONE)], []), True)
        self.assertIs(is_mix(0, [((), (-2, 3))], [(-3, 2)]), True)
        self.assertIs(is_mix(0, [((), (-2, 3))], [(3, 2)]), False)
        self.assertIs(is_mix(2, [((), ONE), ((), TWO)], [(5, 1), (-2, 1)]), True)

    def test_answers(self):
        source = Random(47)
        for n in range(1, 13):
            for figures in (1, 6):
                rows, x = drawn_rows(source, n, source.randint(1, 20), figures)
                self.assertIs(is_answer(rows, x), True)
                self.assertIs(is_answer(bent_rights(source, rows), x), False)
                bent = changed_once(source, x)
                self.assertIs(is_answer(rows, bent), answers_by_words(rows, bent))

    def test_ways(self):
        source = Random(48)
        for n in range(1, 13):
            for figures in (1, 6):
                rows, way = drawn_rows(source, n, source.randint(1, 20), figures)
                # The way goes to nought by each row once its last place takes up what is too much.
                made = []
                for row in rows:
                    number = -side(row, way)
                    made.append((row[0] + ((n, as_number(number)),) if number else row[0], drawn_number(source)))
                self.assertIs(is_way(made, way + [ONE]), True)
                self.assertIs(is_way(made, way + [TWO]), way_by_words(made, way + [TWO]))
                bent = changed_once(source, way + [ONE])
                self.assertIs(is_way(made, bent), way_by_words(made, bent))

    def test_mixes(self):
        source = Random(49)
        for n in range(13):
            for figures, count in ((1, 2), (1, 5), (6, 3), (1, 20)):
                rows, mix = made_with_mix(source, n, count, figures)
                self.assertIs(is_mix(n, rows, mix), True)
                bent = changed_once(source, mix)
                self.assertIs(is_mix(n, rows, bent), mix_by_words(n, rows, bent))
                self.assertIs(is_mix(n, bent_rights(source, rows), mix), False)

    def test_mixes_that_hold(self):
        source = Random(50)
        for n in range(1, 13):
            for figures, count in ((1, 2), (6, 3), (1, 12)):
                # A mix that comes to nought and 1, its right sides taken for one more place.
                made, mix = made_with_mix(source, n - 1, count, figures)
                rows = []
                for parts, right in made:
                    tail = ((n - 1, right),) if right != NOUGHT else ()
                    rows.append((parts + tail, drawn_number(source)))
                self.assertIs(holds(n, rows, [], n - 1, mix), True)
                bent = changed_once(source, mix)
                for free in ([], list(range(0, n - 1, 2)), list(range(n - 1))):
                    self.assertIs(holds(n, rows, free, n - 1, mix), True)
                    self.assertIs(holds(n, rows, free, n - 1, bent), holds_by_words(n, rows, free, n - 1, bent))
                for place in range(n - 1):
                    self.assertIs(holds(n, rows, [], place, mix), False)

    def test_five_hundred_figures(self):
        source = Random(51)
        p, q = 10 ** 230 + 1, 10 ** 231 + 7
        x = [as_number(Fraction(source.randrange(10 ** 240), q)) for _ in range(12)]
        rows = []
        for _ in range(20):
            numbers = [Fraction(source.randrange(1, 10 ** 240), p) for _ in range(12)]
            rows.append(row_of(numbers, side(row_of(numbers, 0), x)))
        self.assertGreater(len(str(max(row[1][0] for row in rows))), 470)
        self.assertIs(is_answer(rows, x), True)
        self.assertIs(is_answer(rows, x[:5] + [ONE] + x[6:]), False)
        self.assertIs(is_way(rows, x), False)
        # Nothing is shared by these bottoms, so the sums have far more figures than each number.
        rows = [(tuple((j, (1, 10 ** 499 + source.randrange(10 ** 490))) for j in range(12)), ONE)]
        x = [(number[1], 12) for _, number in rows[0][0]]
        x = [as_number(Fraction(*number)) for number in x]
        self.assertIs(is_answer(rows, x), True)
        self.assertIs(is_way(rows, x[:6] + [(-top, bottom) for top, bottom in x[6:]]), True)
        y = [(source.randrange(10 ** 499) * 2 + 1, 2 ** 1600) for _ in range(12)]
        self.assertIs(is_answer(rows, y), False)
        self.assertIs(is_way(rows, y), False)
        turned = [(((0, number),), (1, 1)) for _, number in rows[0][0]]
        mix = [(number[1] if k % 2 else -number[1], 1) for k, (_, number) in enumerate(rows[0][0])]
        self.assertIs(is_mix(1, turned, mix), False)
        self.assertIs(holds(1, turned, [], 0, mix[:11] + [(mix[11][0] + rows[0][0][11][1][1], 1)]), True)
        turned = [(((0, ONE),), ONE), (((0, ONE),), as_number(1 - Fraction(1, 10 ** 499)))]
        self.assertIs(is_mix(1, turned, [(10 ** 499, 1), (-(10 ** 499), 1)]), True)
        self.assertIs(is_mix(1, turned, [(10 ** 499, 1), (1 - 10 ** 499, 1)]), False)
