"""Point 25: numbers, sheets and rows written, and read back."""

import unittest
from fractions import Fraction
from random import Random

from fewfills.errors import NoText
from fewfills.texts import read_rows, read_sheet, show_number, show_rows, show_sheet
from tests.helpers import (
    NOUGHT, ONE, as_number, drawn_number, drawn_sheet, drawn_sheets_with_orders, drawn_web, nested_lists,
    odd_numbers_written, odd_places_written, odd_things,
)

SHEET = (3, (((0, ONE), (2, (-1, 2))), (), ((0, (5, 3)), (1, (2, 1)), (2, (-7, 1)))))
SHEET_TEXT = "0: 0=1 2=-1/2\n1:\n2: 0=5/3 1=2 2=-7"
ROWS = [(((0, (5, 1)), (2, (-3, 4))), (1, 2)), ((), NOUGHT), (((1, (-1, 1)),), (-8, 1))]
ROWS_TEXT = "0=5 2=-3/4 | 1/2\n| 0\n1=-1 | -8"
SIXTY = 10 ** 60 - 1


def drawn_rows(source, n, count, figures):
    rows = []
    for _ in range(count):
        parts = tuple((j, drawn_number(source, figures)) for j in range(n) if source.random() < 0.6)
        rows.append((parts, drawn_number(source, figures) if source.random() < 0.9 else NOUGHT))
    return rows


class ShowNumber(unittest.TestCase):
    def test_by_hand(self):
        for number, text in (((5, 1), "5"), ((-3, 4), "-3/4"), (NOUGHT, "0"), (ONE, "1"), ((-1, 1), "-1"),
                             ((10, 1), "10"), ((1, 10), "1/10"), ((-100, 7), "-100/7"), ((7, 1000), "7/1000")):
            self.assertEqual(show_number(number), text)

    def test_of_any_figures(self):
        for figures in (1, 2, 59, 60, 61, 119, 120, 121, 180, 500, 3999, 4000, 4300):
            nines, round_one, short = "9" * figures, "1" + "0" * figures, "1" + "0" * (figures - 1)
            self.assertEqual(show_number((10 ** figures - 1, 1)), nines)
            self.assertEqual(show_number((-(10 ** figures), 10 ** figures - 1)), f"-{round_one}/{nines}")
            self.assertEqual(show_number((10 ** (figures - 1), 3)), f"{short}/3")
        for figures in (4301, 9000):
            text = show_number((-(10 ** figures) - 7, 1))
            self.assertEqual((len(text), text[:3], set(text[2:-1]), text[-1]), (figures + 2, "-10", {"0"}, "7"))

    def test_as_python_writes_it(self):
        source = Random(57)
        for figures in (1, 2, 5, 20, 60, 61, 130, 400):
            for _ in range(20):
                number = drawn_number(source, figures)
                self.assertEqual(show_number(number), str(Fraction(*number)))


class Shown(unittest.TestCase):
    def test_by_hand(self):
        self.assertEqual(show_sheet(SHEET), SHEET_TEXT)
        self.assertEqual(show_rows(ROWS), ROWS_TEXT)
        self.assertEqual(show_sheet((0, ())), "")
        self.assertEqual(show_rows([]), "")
        self.assertEqual(show_sheet((1, ((),))), "0:")
        self.assertEqual(show_sheet((2, ((), ()))), "0:\n1:")
        self.assertEqual(show_rows([((), ONE)]), "| 1")

    def test_two_figures_of_a_place(self):
        rows = tuple(((v, (v + 1, 1)),) for v in range(12))
        self.assertEqual(show_sheet((12, rows)), "\n".join(f"{v}: {v}={v + 1}" for v in range(12)))
        self.assertEqual(show_rows([(((9, ONE), (10, (-1, 3)), (11, ONE)), ONE)]), "9=1 10=-1/3 11=1 | 1")

    def test_numbers_of_more_figures_than_are_read(self):
        text = show_sheet((1, (((0, (SIXTY + 1, 1)),),)))
        self.assertEqual(text, "0: 0=1" + "0" * 60)
        with self.assertRaises(NoText):
            read_sheet(text)
        text = show_rows([((), (1, SIXTY + 1))])
        self.assertEqual(text, "| 1/1" + "0" * 60)
        with self.assertRaises(NoText):
            read_rows(0, text)


class ReadBack(unittest.TestCase):
    def test_by_hand(self):
        self.assertEqual(read_sheet(SHEET_TEXT), SHEET)
        self.assertEqual(read_rows(3, ROWS_TEXT), ROWS)
        self.assertEqual(read_rows(12, ROWS_TEXT), ROWS)
        self.assertEqual(read_sheet(""), (0, ()))
        for n in range(13):
            self.assertEqual(read_rows(n, ""), [])
            self.assertEqual(read_sheet("\n".join(f"{v}:" for v in range(n))), (n, ((),) * n))

    def test_sheets(self):
        source = Random(58)
        for figures in (1, 6, 30, 60):
            for n in range(13):
                sheet = drawn_sheet(source, drawn_web(source, n), figures, 0.2)
                self.assertEqual(read_sheet(show_sheet(sheet)), sheet)
        for sheet, _ in drawn_sheets_with_orders(each=5, seed=59):
            self.assertEqual(read_sheet(show_sheet(sheet)), sheet)

    def test_rows(self):
        source = Random(60)
        for figures in (1, 6, 30, 60):
            for n in range(13):
                for count in (0, 1, 2, 19, 20):
                    rows = drawn_rows(source, n, count, figures)
                    self.assertEqual(read_rows(n, show_rows(rows)), rows)

    def test_the_most_figures(self):
        for number in ((SIXTY, 1), (-SIXTY, 1), (1, SIXTY), (-SIXTY, SIXTY - 1), (SIXTY - 1, SIXTY)):
            self.assertEqual(read_sheet(show_sheet((1, (((0, number),),)))), (1, (((0, number),),)))
            self.assertEqual(read_rows(1, show_rows([(((0, number),), number)])), [(((0, number),), number)])

    def test_kinds_of_what_is_told(self):
        told = read_sheet(SHEET_TEXT)
        for thing in (told, told[1], told[1][0], told[1][1], told[1][0][0], told[1][0][0][1]):
            self.assertIs(type(thing), tuple)
        told = read_rows(3, ROWS_TEXT)
        self.assertIs(type(told), list)
        for thing in (told[0], told[0][0], told[0][0][0], told[0][0][0][1], told[0][1], told[1][0]):
            self.assertIs(type(thing), tuple)


class NoSheetText(unittest.TestCase):
    def refused(self, text, line):
        with self.assertRaises(NoText) as caught:
            read_sheet(text)
        self.assertEqual(caught.exception.line, line, text[:200] if isinstance(text, str) else "no text")

    def test_what_is_no_text(self):
        for thing in [thing for thing in odd_things() if not isinstance(thing, str)] + nested_lists() + [0, 5, [], ()]:
            self.refused(thing, 0)
        self.refused(SHEET_TEXT.encode(), 0)
        self.refused([SHEET_TEXT], 0)

    def in_each_line(self, line):
        """The line, with an I in it for its place, at each place of a sheet of four."""
        for k in range(4):
            lines = [f"{v}: {v}=1" for v in range(4)]
            lines[k] = line.replace("I", str(k))
            self.refused("\n".join(lines), k)

    def test_heads(self):
        for line in ("", " ", ":", "I", "I=1", "I 0=1", "I; 0=1", "0I: 0=1", "-I: 0=1", "+I: 0=1", " I: 0=1", "I : 0=1",
                     "4: 0=1", "a: 0=1", "I:0=1", "I:: 0=1", "I:\t0=1", "\tI:", "I.: 0=1", "I/1: 0=1", "12: 0=1"):
            self.in_each_line(line)
        self.refused("1:\n0:", 0)
        self.refused("0:\n0:", 1)
        self.refused("0:\n2:\n1:", 1)

    def test_blanks(self):
        for line in ("I: ", "I:  ", "I:  0=1", "I: 0=1 ", "I: 0=1  2=1", " I:", "I: 0=1 2=1 ", "I: 0= 1", "I: 0 =1",
                     "I: 0 = 1", "I: 0=1\t2=1", "I: 0=1 /2"):
            self.in_each_line(line)

    def test_numbers(self):
        for word in odd_numbers_written():
            self.in_each_line(f"I: 2={word}")
            self.in_each_line(f"I: 0=1 1={word} 3=1")
        self.in_each_line("I: 2=0")

    def test_places(self):
        for word in odd_places_written(4):
            self.in_each_line(f"I: {word}=1")
            self.in_each_line(f"I: 0=1 {word}=1")
        for part in ("2", "=1", "=", "2==1", "2=1=1", "2:1", "2-1", "1=2,3=4"):
            self.in_each_line(f"I: {part}")

    def test_not_rising_or_twice(self):
        for parts in ("1=1 0=1", "0=1 0=1", "0=1 2=1 1=1", "0=1 3=1 3=2", "3=1 2=1 1=1 0=1"):
            self.in_each_line(f"I: {parts}")
        lines = [f"{v}:" for v in range(11)] + ["11: 10=1 9=1"]
        self.refused("\n".join(lines), 11)

    def test_a_place_that_is_not_one_of_so_many_lines(self):
        for n in range(1, 13):
            for k in range(n):
                lines = [f"{v}:" for v in range(n)]
                lines[k] += f" {n}=1"
                self.refused("\n".join(lines), k)

    def test_empty_lines_and_line_ends(self):
        self.refused("\n", 0)
        self.refused("\n\n", 0)
        self.refused("\n0:", 0)
        self.refused("0:\n", 1)
        self.refused("0: 0=1\n", 1)
        self.refused("0:\n\n1:", 1)
        self.refused("0:\n1:\n2:\n", 3)
        self.refused("0: 0=1\r\n1:", 0)
        self.refused(" ", 0)

    def test_a_thirteenth_line(self):
        for count in (13, 14, 30):
            self.refused("\n".join(f"{v}:" for v in range(count)), 12)
            self.refused("\n".join(f"{v}: {v % 12}=1" for v in range(count)), 12)
        lines = [f"{v}:" for v in range(12)]
        self.refused("\n".join(lines) + "\n", 12)
        lines[7] = "7: 7=0"
        self.refused("\n".join(lines + ["12:"]), 7)
        # Of thirteen lines 12 is a place and 13 is none: at fault is the thirteenth line, or the one with 13.
        lines[7] = "7: 12=1"
        self.refused("\n".join(lines + ["12: 12=1"]), 12)
        lines[7] = "7: 13=1"
        self.refused("\n".join(lines + ["12: 12=1"]), 7)

    def test_the_first_line_at_fault(self):
        self.refused("0:\n1: 1=0\n2: 2=00\n3: x", 1)
        self.refused("0:\n1: 1=1\n2: 2=00\n3: x", 2)
        self.refused("0:\n1: 1=1\n2: 2=1\n3: x", 3)

    def test_other_texts(self):
        for text in ("x", "0", "none", ROWS_TEXT, "| 0", "{}", "0: 0=1; 1: 1=1"):
            self.refused(text, 0)


class NoRowsText(unittest.TestCase):
    def refused(self, n, text, line):
        with self.assertRaises(NoText) as caught:
            read_rows(n, text)
        self.assertEqual(caught.exception.line, line, text[:200] if isinstance(text, str) else "no text")

    def in_each_line(self, line, n=4):
        for k in range(4):
            lines = ["0=1 | 1", "| 0", "1=2 2=1/2 | -3", "3=1 | 0"]
            lines[k] = line
            self.refused(n, "\n".join(lines), k)

    def test_what_is_no_text(self):
        for thing in [thing for thing in odd_things() if not isinstance(thing, str)] + nested_lists() + [0, 5, [], ()]:
            for n in (0, 3):
                self.refused(n, thing, 0)

    def test_strokes_and_blanks(self):
        for line in ("", " ", "|", "| ", " | 1", "|1", "| 1 ", "|  1", "1", "0=1", "0=1 1", "0=1 |", "0=1 | ", "0=1| 1",
                     "0=1 |1", "0=1  | 1", "0=1 |  1", "0=1 | 1 ", " 0=1 | 1", "0=1  1=1 | 1", "0=1 || 1", "0=1 | | 1",
                     "| | 1", "0=1 | 1 | 1", "| 0=1 | 1", "0=1 | 1=1", "| 0=1", "| 1 1", "0=1 : 1", "0=1 / 1",
                     "0=1\t| 1", "0: 0=1 | 1", "| x"):
            self.in_each_line(line)

    def test_numbers(self):
        for word in odd_numbers_written():
            self.in_each_line(f"2={word} | 1")
            self.in_each_line(f"0=1 2={word} 3=1 | 1")
            self.in_each_line(f"2=1 | {word}")
            self.in_each_line(f"| {word}")
        self.in_each_line("2=0 | 1")

    def test_places(self):
        for word in odd_places_written(4):
            self.in_each_line(f"{word}=1 | 1")
            self.in_each_line(f"0=1 {word}=1 | 1")
        for n in range(13):
            self.refused(n, f"| 1\n{n}=1 | 1", 1)
            self.refused(n, f"{n}=1 | 1", 0)

    def test_not_rising_or_twice(self):
        for parts in ("1=1 0=1", "0=1 0=1", "0=1 2=1 1=1", "0=1 3=1 3=2"):
            self.in_each_line(f"{parts} | 1")
        self.refused(12, "10=1 9=1 | 1", 0)

    def test_empty_lines_and_line_ends(self):
        self.refused(1, "\n", 0)
        self.refused(1, "\n| 1", 0)
        self.refused(1, "| 1\n", 1)
        self.refused(1, "0=1 | 1\n\n0=1 | 1", 1)
        self.refused(1, "| 1\n| 2\n| 3\n", 3)
        self.refused(1, "| 1\r\n| 1", 0)

    def test_a_twenty_first_line(self):
        for count in (21, 22, 40):
            self.refused(1, "\n".join(["0=1 | 1"] * count), 20)
            self.refused(0, "\n".join(["| 0"] * count), 20)
        self.refused(0, "\n".join(["| 0"] * 20) + "\n", 20)
        self.refused(0, "\n".join(["| 0"] * 13 + ["|"] + ["| 0"] * 9), 13)

    def test_the_first_line_at_fault(self):
        self.refused(2, "| 1\n0=0 | 1\n| 00", 1)
        self.refused(2, "| 1\n0=1 | 1\n| 00", 2)

    def test_other_texts(self):
        for text in ("x", "0", "none", SHEET_TEXT, "[]"):
            self.refused(3, text, 0)


class AsNumber(unittest.TestCase):
    def test_all_short_words_of_these_signs(self):
        """Each word of up to four signs is read just where it is how its number is written."""
        words = [""]
        for _ in range(4):
            words = words + [word + sign for word in words if len(word) < 4 for sign in "012-/"]
        seen = 0
        for word in sorted(set(words)):
            try:
                number = as_number(Fraction(word))
                wanted = str(Fraction(word)) == word
            except (ValueError, ZeroDivisionError):
                wanted = False
            if wanted:
                self.assertEqual(read_rows(0, f"| {word}"), [((), number)])
                seen += 1
            else:
                with self.assertRaises(NoText):
                    read_rows(0, f"| {word}")
        self.assertGreater(seen, 50)
