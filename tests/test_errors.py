"""The refusals: which class stands under which, and their fields."""

import unittest

from fewfills import errors
from fewfills.changes import changed, touched
from fewfills.desk import Desk
from fewfills.errors import (
    FillError, NoNumber, NoOrder, NoParting, NoPivot, NoPlace, NoRow, NoSheet, NoText, NoWeb, NoWord, TooMany,
)
from fewfills.fronts import fronts
from fewfills.game import fill, filled, struck_out
from fewfills.least import least
from fewfills.numbers import number_of, over
from fewfills.parting import may_come, pieces, shores
from fewfills.sheets import number_at, sheet_of
from fewfills.strike import struck
from fewfills.texts import read_rows, read_sheet
from fewfills.trees import keeps, parents, waits
from fewfills.webs import neighbours, web_of

PLAIN = ["NoNumber", "NoWeb", "NoPlace", "NoOrder", "NoParting", "TooMany", "NoSheet", "NoRow", "NoWord"]
ALL = PLAIN + ["NoPivot", "NoText"]


class Classes(unittest.TestCase):
    def test_any_refusal_is_a_value_error(self):
        self.assertEqual(FillError.__bases__, (ValueError,))

    def test_each_stands_straight_under_fill_error(self):
        for name in ALL:
            with self.subTest(name=name):
                self.assertEqual(getattr(errors, name).__bases__, (FillError,))

    def test_none_is_another_one(self):
        for name in ALL:
            for other in ALL:
                if name != other:
                    self.assertFalse(issubclass(getattr(errors, name), getattr(errors, other)), (name, other))

    def test_there_are_no_others(self):
        told = [name for name in vars(errors) if isinstance(getattr(errors, name), type)]
        self.assertEqual(sorted(told), sorted(ALL + ["FillError"]))

    def test_plain_ones_are_made_with_words_or_without(self):
        for name in PLAIN:
            made = getattr(errors, name)
            self.assertIsInstance(made(), FillError)
            self.assertEqual(str(made("some words")), "some words")


class Fields(unittest.TestCase):
    def test_no_pivot_has_its_place(self):
        for place in (0, 7, 11):
            error = NoPivot(place)
            self.assertEqual(error.place, place)
            self.assertIsInstance(error, FillError)
            self.assertIn(str(place), str(error))

    def test_no_text_has_its_line(self):
        for line in (0, 5, 20):
            error = NoText(line)
            self.assertEqual(error.line, line)
            self.assertIsInstance(error, FillError)
            self.assertIn(str(line), str(error))

    def test_each_object_keeps_its_own(self):
        first, second = NoPivot(1), NoPivot(2)
        self.assertEqual((first.place, second.place), (1, 2))


class Refused(unittest.TestCase):
    """What the functions raise is a FillError, a ValueError, and of no other class."""

    def check(self, wanted, call, *arguments):
        with self.assertRaises(wanted) as caught:
            call(*arguments)
        error = caught.exception
        self.assertIsInstance(error, FillError)
        self.assertIsInstance(error, ValueError)
        for name in ALL:
            other = getattr(errors, name)
            self.assertEqual(isinstance(error, other), other is wanted, name)

    def test_each_refusal_of_numbers_webs_and_the_game(self):
        web = (3, ((0, 1),))
        self.check(NoNumber, number_of, 1, 0)
        self.check(NoNumber, over, (1, 2), (0, 1))
        self.check(NoWeb, web_of, 13, [])
        self.check(NoPlace, neighbours, web, 3)
        self.check(NoPlace, struck_out, web, [0, 1, 2], 3)
        self.check(NoOrder, fill, web, [0, 1])
        self.check(NoOrder, filled, web, [0, 1])

    def test_each_refusal_of_trees_and_the_least(self):
        web = (3, ((0, 1),))
        self.check(NoOrder, parents, web, [0, 1])
        self.check(NoOrder, waits, web, [0, 1], 2)
        self.check(NoOrder, keeps, [1, None, None], [0, 1])
        self.check(NoPlace, waits, web, [0, 1, 2], 3)
        self.check(NoPlace, waits, web, [0, 1], 3)
        self.check(TooMany, least, (8, ()))

    def test_each_refusal_of_partings_sheets_and_striking(self):
        web, bare = (3, ((0, 1),)), (3, ((),) * 3)
        for call in (pieces, shores, may_come):
            self.check(NoParting, call, web, (0, 1))
            self.check(NoPlace, call, web, [0, 0, 3])
            self.check(NoParting, call, web, [0, 0])
        self.check(NoSheet, sheet_of, 13, [])
        self.check(NoSheet, sheet_of, 3, [[], []])
        self.check(NoSheet, sheet_of, 3, [[], [(3, (1, 1))], []])
        self.check(NoPlace, number_at, bare, 3, 0)
        self.check(NoPlace, number_at, bare, 0, 3)
        for call in (struck, fronts):
            self.check(NoOrder, call, bare, [0, 1])
            self.check(NoPivot, call, bare, [0, 1, 2])

    def test_each_refusal_of_changes_and_texts(self):
        sheet, order = (2, (((0, (1, 1)),), ((1, (1, 1)),))), [0, 1]
        work = struck(sheet, order)
        self.check(NoPlace, touched, (2, ()), order, [(0, 2)])
        self.check(NoOrder, touched, (2, ()), [0], [(0, 0)])
        self.check(NoPlace, changed, sheet, [0], work, 2, None)
        self.check(NoOrder, changed, sheet, [0], work, 1, None)
        self.check(NoRow, changed, sheet, order, work, 1, None)
        self.check(NoRow, changed, sheet, order, work, 1, ((0, (1, 1)),))
        self.check(NoPivot, changed, sheet, order, work, 1, ())
        for text in (None, "x", "0: 0=0", "1" * 5000, "0: 0=" + "1" * 5000, "0: " + "1" * 5000 + "=1"):
            self.check(NoText, read_sheet, text)
        for text in (None, "x", "| 00", "| " + "1" * 5000, "| 1/" + "1" * 5000, "1" * 5000 + "=1 | 1"):
            self.check(NoText, read_rows, 3, text)

    def test_each_refusal_of_a_desk(self):
        desk = Desk("0: 0=1\n1:")
        self.check(NoText, Desk, "1:")
        self.check(NoText, Desk, None)
        for row in (None, "", "x", "fill 1", "order 0 2", "waits " + "1" * 5000, "answer 1 " + "1" * 5000, "row 0 0=0"):
            self.check(NoWord, desk.say, row)
        self.check(NoOrder, desk.say, "order 0")
        self.check(NoRow, desk.say, "row 0 1=1")
        self.check(NoPivot, desk.say, "pivots")
        self.check(NoPivot, desk.say, "answer 1 1")
        self.check(TooMany, Desk("\n".join(f"{v}:" for v in range(8))).say, "least")
