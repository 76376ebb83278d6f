"""Point 26: the desk, told rows and answering with texts."""

import unittest
from fractions import Fraction
from random import Random

from fewfills.chords import without_fill
from fewfills.desk import Desk
from fewfills.errors import FillError, NoOrder, NoPivot, NoRow, NoText, NoWord, TooMany
from fewfills.game import fill
from fewfills.least import least
from fewfills.sheets import showing
from fewfills.strike import solved, struck
from fewfills.texts import read_sheet, show_number, show_sheet
from fewfills.trees import parents, waits
from tests.helpers import (
    RING, drawn_number, drawn_sheets_with_orders, drawn_webs_with_orders, nested_lists, odd_numbers_written,
    odd_places_written, odd_things, parents_by_game, shape_of, shuffled, square_of, work_by_words,
)

# Row by row: 2 1 0, 4 5 3, 0 -6 1.
TEXT = "0: 0=2 1=1\n1: 0=4 1=5 2=3\n2: 1=-6 2=1"
ALONE = ("fill", "tree", "web", "least", "pivots", "show")


def written(words):
    return " ".join(str(word) for word in words) or "none"


def order_row(order):
    return " ".join(["order"] + [str(place) for place in order])


def row_row(i, parts):
    return " ".join(["row", str(i)] + [f"{j}={show_number(number)}" for j, number in parts])


def answers_of(desk):
    """What the desk answers to the rows that change nothing, or the refusal's name and place."""
    told = []
    for row in ALONE:
        try:
            told.append(desk.say(row))
        except FillError as error:
            told.append((type(error), getattr(error, "place", None)))
    return told


class ByHand(unittest.TestCase):
    def test_each_row(self):
        desk = Desk(TEXT)
        for row, wanted in (
            ("fill", "none"), ("tree", "1 2 ."), ("waits 0", "none"), ("waits 2", "0 1"), ("web", "order 0 1 2"),
            ("least", "0"), ("pivots", "2 3 7"), ("answer 4 23 -9", "1 2 3"), ("answer 0 0 1/2", "1/28 -1/14 1/14"),
            ("show", TEXT), ("order 1 0 2", "ok"), ("fill", "0-2"), ("tree", "2 0 ."), ("waits 2", "0 1"),
            ("waits 0", "1"), ("pivots", "5 6/5 7"), ("answer 4 23 -9", "1 2 3"), ("web", "order 0 1 2"),
            ("row 1 0=4 1=5 2=3", "none"), ("row 1 0=4 1=5 2=1/2", "0 1 2"), ("row 0 0=5 1=1", "0 2"),
            ("row 2", "0 1 2"), ("show", "0: 0=5 1=1\n1: 0=4 1=5 2=1/2\n2:"), ("order 0 2 1", "ok"), ("tree", "1 . 1"),
        ):
            self.assertEqual(desk.say(row), wanted, row)
            self.assertIs(type(desk.say("show")), str)
        with self.assertRaises(NoPivot) as caught:
            desk.say("pivots")
        self.assertEqual(caught.exception.place, 2)

    def test_rings_and_the_least(self):
        desk = Desk(show_sheet(showing(RING)))
        words = desk.say("web").split(" ")
        self.assertEqual(words[0], "ring")
        self.assertEqual(sorted(words[1:]), ["0", "1", "2", "3", "4"])
        self.assertEqual(desk.say("least"), "2")
        self.assertEqual(desk.say("fill"), "1-4 2-4")
        self.assertEqual(desk.say("order 0 2 1 3 4"), "ok")
        self.assertEqual(desk.say("fill"), "1-3 1-4")

    def test_without_places(self):
        desk = Desk("")
        for row, wanted in (
            ("order", "ok"), ("fill", "none"), ("tree", "none"), ("web", "order"), ("least", "0"), ("pivots", "none"),
            ("answer", "none"), ("show", ""),
        ):
            self.assertEqual(desk.say(row), wanted, row)
        for row in ("order 0", "waits 0", "row 0", "row 0 0=1", "answer 0", "answer 1", "waits", "row"):
            with self.assertRaises(NoWord):
                desk.say(row)

    def test_the_first_order_is_that_of_the_places(self):
        for n in range(13):
            desk = Desk("\n".join(f"{v}: {v}={v + 1}" for v in range(n)))
            self.assertEqual(desk.say("pivots"), written(range(1, n + 1)))
            self.assertEqual(desk.say("tree"), written(["."] * n))

    def test_two_figures_of_a_place(self):
        web = (12, ((0, 10), (0, 11), (9, 10)))
        desk = Desk(show_sheet(showing(web)))
        self.assertEqual(desk.say("fill"), "10-11")
        self.assertEqual(desk.say("waits 10"), "0 9")
        self.assertEqual(desk.say("tree"), "10 . . . . . . . . 10 11 .")
        self.assertEqual(desk.say("row 11 0=-1 11=5"), "11")
        self.assertEqual(desk.say("row 10 9=-2"), "0 9 10 11")


class AgainstTheFunctions(unittest.TestCase):
    def check_shape(self, desk, sheet, order):
        web = shape_of(sheet)
        self.assertEqual(desk.say("fill"), written(f"{a}-{b}" for a, b in fill(web, order)))
        tree = parents_by_game(web, order)
        self.assertEqual(tree, parents(web, order))
        self.assertEqual(desk.say("tree"), written("." if place is None else place for place in tree))
        for v in order:
            self.assertEqual(desk.say(f"waits {v}"), written(waits(web, order, v)))
        kind, places = without_fill(web)
        self.assertEqual(desk.say("web"), " ".join([kind] + [str(place) for place in places]))
        self.assertEqual(desk.say("show"), show_sheet(sheet))
        if sheet[0] > 7:
            with self.assertRaises(TooMany):
                desk.say("least")

    def check_numbers(self, desk, sheet, order, right):
        work = work_by_words(sheet, order)
        words = " ".join(["answer"] + [show_number(number) for number in right])
        if isinstance(work, list):
            self.assertEqual(struck(sheet, order), work)
            self.assertEqual(desk.say("pivots"), written(show_number(step[1]) for step in work))
            x = solved(sheet[0], work, right)
            self.assertEqual(desk.say(words), written(show_number(number) for number in x))
            told = [Fraction(word) for word in desk.say(words).split(" ")] if order else []
            for line, number in zip(square_of(sheet), right):
                self.assertEqual(sum(a * b for a, b in zip(line, told)), Fraction(*number))
        else:
            for row in ("pivots", words):
                with self.assertRaises(NoPivot) as caught:
                    desk.say(row)
                self.assertEqual(caught.exception.place, work)

    def test_desks_of_all_counts(self):
        source = Random(61)
        for sheet, order in drawn_sheets_with_orders(each=6, empty=0.05, seed=62):
            desk = Desk(show_sheet(sheet))
            self.check_shape(desk, sheet, list(range(sheet[0])))
            self.assertEqual(desk.say(order_row(order)), "ok")
            self.check_shape(desk, sheet, order)
            right = [drawn_number(source) if source.random() < 0.8 else (0, 1) for _ in order]
            self.check_numbers(desk, sheet, order, right)

    def test_the_least(self):
        for web, _ in drawn_webs_with_orders(each=2):
            if web[0] <= 7:
                self.assertEqual(Desk(show_sheet(showing(web))).say("least"), str(least(web)[0]))

    def test_sixty_figures(self):
        great, other = 10 ** 60 - 1, 10 ** 59 + 7
        desk = Desk(f"0: 0={great}/{other} 1=-{other}\n1: 0=1/{great} 1=2")
        pivot = 2 + Fraction(1, great) * other / Fraction(great, other)
        self.assertEqual(desk.say("pivots"), f"{great}/{other} {pivot}")
        self.assertEqual(desk.say(f"row 0 0=1 1={great}"), "0 1")
        self.assertEqual(desk.say("pivots"), "1 1")
        self.assertEqual(desk.say(f"answer {great} 1/{great}"), f"{2 * great - 1} {Fraction(1, great) - 1}")


class Rows(unittest.TestCase):
    """Rows changed, whether or not the sheet has its pivots."""

    def touched_by_words(self, sheet, order, i, row):
        web, was, now = shape_of(sheet), dict(sheet[1][i]), dict(row)
        tree, found = parents_by_game(web, order), set()
        for j in range(sheet[0]):
            if was.get(j) != now.get(j):
                here = min((i, j), key=order.index)
                while here is not None:
                    found.add(here)
                    here = tree[here]
        return sorted(found)

    def test_many(self):
        source = Random(63)
        with_pivots = {(ahead, behind): 0 for ahead in (True, False) for behind in (True, False)}
        for sheet, order in drawn_sheets_with_orders(each=8, empty=0.1, seed=64):
            desk = Desk(show_sheet(sheet))
            desk.say(order_row(order))
            for i in shuffled(source, order)[:4]:
                near = sorted({i}.union(*[pair for pair in shape_of(sheet)[1] if i in pair]))
                row = tuple((j, drawn_number(source)) for j in near if source.random() < 0.8)
                new = (sheet[0], sheet[1][:i] + (row,) + sheet[1][i + 1:])
                self.assertEqual(desk.say(row_row(i, row)), written(self.touched_by_words(sheet, order, i, row)))
                self.assertEqual(desk.say("show"), show_sheet(new))
                ahead, behind = [isinstance(work_by_words(one, order), list) for one in (sheet, new)]
                with_pivots[ahead, behind] += 1
                fresh = Desk(show_sheet(new))
                fresh.say(order_row(order))
                self.assertEqual(answers_of(desk), answers_of(fresh))
                sheet = new
        self.assertGreater(min(with_pivots.values()), 3, with_pivots)

    def test_a_nought_ahead_and_behind(self):
        desk = Desk("0: 1=1\n1: 0=1 1=1")
        self.assertRaises(NoPivot, desk.say, "pivots")
        self.assertEqual(desk.say("row 1 0=2 1=1"), "0 1")
        self.assertRaises(NoPivot, desk.say, "pivots")
        self.assertEqual(desk.say("row 0 0=1 1=1"), "0 1")
        self.assertEqual(desk.say("pivots"), "1 -1")
        self.assertEqual(desk.say("row 0 1=1"), "0 1")
        self.assertRaises(NoPivot, desk.say, "pivots")

    def test_no_row(self):
        desk = Desk(TEXT)
        for row in ("row 0 2=1", "row 0 0=1 1=1 2=1", "row 2 0=1", "row 2 0=1 1=1 2=1"):
            with self.assertRaises(NoRow):
                desk.say(row)
        self.assertEqual(desk.say("show"), TEXT)
        # Of a sheet with a nought to strike by, too.
        desk = Desk("0:\n1:\n2: 1=1")
        self.assertRaises(NoRow, desk.say, "row 0 0=1 1=1")
        self.assertEqual(desk.say("row 1 2=5"), "1 2")
        self.assertEqual(desk.say("row 2"), "1 2")
        self.assertEqual(desk.say("row 1"), "1 2")
        self.assertRaises(NoRow, desk.say, "row 1 2=5")


class Refused(unittest.TestCase):
    def refused(self, wanted, desk, row):
        before = answers_of(desk)
        with self.assertRaises(wanted):
            desk.say(row)
        self.assertEqual(answers_of(desk), before, row)

    def setUp(self):
        self.desk = Desk(TEXT)
        self.desk.say("order 1 0 2")

    def no_word(self, row):
        self.refused(NoWord, self.desk, row)

    def test_what_is_no_text(self):
        for thing in odd_things() + nested_lists() + [0, 5, [], (), ["fill"], ("fill",), b"fill"]:
            if not isinstance(thing, str):
                self.no_word(thing)

    def test_first_words(self):
        for row in ("", " ", "x", "Fill", "FILL", "fil", "fills", "none", "ok", "orders 0 1 2", "Order 0 1 2", "rows 0",
                    "pivot", "shows", "0", "0 1 2", "\n", "fill\n", "\nfill", "fill\nfill", "show\t", "solve",
                    "touched", "struck", "wait 0", "answers 1 2 3", "Row 0 0=1", "order,0,1,2", "parents", "sheet",
                    "help"):
            self.no_word(row)

    def test_how_many_words(self):
        for word in ALONE:
            for more in (" ", " 0", " 0 1", " x", " none"):
                self.no_word(word + more)
        for row in ("waits", "waits 0 1", "waits 0 1 2", "answer", "answer 1", "answer 1 2", "answer 1 2 3 4", "row"):
            self.no_word(row)

    def test_blanks(self):
        for row in (" fill", "fill ", "order 0 1 2 ", "order  0 1 2", "order 0  1 2", "order ", " order 0 1 2",
                    "waits ", "waits  0", "waits 0 ", "answer 1 2 3 ", "answer 1  2 3", "answer  2 3", "answer 1 2 ",
                    "row ", "row  0", "row 0 ", "row 0 0=1 ", "row 0  0=1", " row 0", "show ", "row 0 0=1  1=1"):
            self.no_word(row)

    def test_places(self):
        for word in odd_places_written(3):
            for row in (f"waits {word}", f"order {word}", f"order 0 1 {word}", f"order {word} 1 2",
                        f"order 0 1 2 {word}", f"row {word}", f"row {word} 0=1", f"row 0 {word}=1",
                        f"row 1 0=1 {word}=1"):
                self.no_word(row)

    def test_numbers(self):
        for word in odd_numbers_written():
            for row in (f"answer {word} 1 2", f"answer 1 2 {word}", f"row 0 0={word}", f"row 1 0=1 1={word} 2=1"):
                self.no_word(row)

    def test_parts_of_a_row(self):
        for words in ("0", "0=", "=1", "=", "0=1=1", "0=0", "0=1 1=0", "1=1 0=1", "0=1 0=1", "0=1 1=1 1=2", "0:1",
                      "0 1", "0=1 x", "0=1,1=1", "| 0", "0=1 | 1"):
            self.no_word(f"row 0 {words}")
            self.no_word(f"row 1 {words}")

    def test_no_word_goes_ahead(self):
        # Of each row something else is due as well: no order, no row, no pivot.
        for row in ("order 0 0 x", "order 3", "order 0 1 1 3", "row 0 2=1 1=1", "row 0 2=0", "row 2 0=1 3=1"):
            self.no_word(row)
        desk = Desk("0:\n1:")
        for row in ("answer 1", "answer 1 x", "answer 1 2 3", "pivots 1", "row 0 1=1 1=1"):
            self.refused(NoWord, desk, row)
        desk = Desk("\n".join(f"{v}:" for v in range(8)))
        self.refused(NoWord, desk, "least 1")
        self.refused(TooMany, desk, "least")

    def test_no_order(self):
        for row in ("order", "order 0", "order 0 1", "order 0 1 1", "order 0 0 1 2", "order 2 2 2", "order 0 1 2 0"):
            self.refused(NoOrder, self.desk, row)
        self.refused(NoOrder, Desk("0:"), "order")

    def test_no_row_no_pivot_and_too_many(self):
        self.refused(NoRow, self.desk, "row 0 2=1")
        desk = Desk("0: 0=1\n1:")
        for row in ("pivots", "answer 1 1"):
            self.refused(NoPivot, desk, row)
        for n in range(8, 13):
            self.refused(TooMany, Desk("\n".join(f"{v}: {v}=1" for v in range(n))), "least")

    def test_texts_of_no_sheet(self):
        for text, line in (("x", 0), ("0:\n", 1), ("0: 0=0", 0), ("0:\n1: 2=1", 1), (None, 0), (b"", 0), ([], 0),
                           (0, 0), ("\n".join(f"{v}:" for v in range(13)), 12), (["0:"], 0), (read_sheet(TEXT), 0)):
            with self.assertRaises(NoText) as caught:
                Desk(text)
            self.assertEqual(caught.exception.line, line)


class ByTurns(unittest.TestCase):
    def test_two_desks(self):
        first, second = Desk(TEXT), Desk(TEXT)
        self.assertEqual(first.say("order 1 0 2"), "ok")
        self.assertEqual(second.say("tree"), "1 2 .")
        self.assertEqual(first.say("tree"), "2 0 .")
        self.assertEqual(second.say("row 0 0=7 1=1"), "0 1 2")
        self.assertEqual(first.say("show"), TEXT)
        self.assertEqual(first.say("row 2 1=-6"), "2")
        self.assertEqual(second.say("show"), "0: 0=7 1=1\n1: 0=4 1=5 2=3\n2: 1=-6 2=1")
        self.assertEqual(first.say("show"), "0: 0=2 1=1\n1: 0=4 1=5 2=3\n2: 1=-6")
        self.assertEqual(Desk(TEXT).say("pivots"), "2 3 7")

    def test_many_desks_by_turns_answer_as_each_alone(self):
        source = Random(65)
        sheets = [one for one in drawn_sheets_with_orders(each=2, seed=66) if one[0][0]]
        desks = [Desk(show_sheet(sheet)) for sheet, _ in sheets]
        for desk, (_, order) in zip(desks, sheets):
            desk.say(order_row(order))
        for k in shuffled(source, range(len(sheets))):
            sheet, order = sheets[k]
            alone = Desk(show_sheet(sheet))
            alone.say(order_row(order))
            self.assertEqual(answers_of(desks[k]), answers_of(alone))

    def test_asked_again_the_same(self):
        desk = Desk(TEXT)
        self.assertEqual(answers_of(desk), answers_of(desk))
        self.assertEqual(desk.say("answer 1 2 3"), desk.say("answer 1 2 3"))
