"""Texts: numbers, sheets and rows as they are written, and read back."""

from fewfills.errors import NoText
from fewfills.numbers import is_number
from fewfills.sheets import is_row
from fewfills.webs import MOST_PLACES, is_place

FIGURES = "0123456789"
MOST_FIGURES = 60
MOST_ROWS = 20


def show_whole(whole):
    """The figures of a whole number from 0 on."""
    text = ""
    # Some at a time: Python refuses to write very long numbers at once.
    while whole >= 10 ** 60:
        text = str(whole % 10 ** 60).zfill(60) + text
        whole = whole // 10 ** 60
    return str(whole) + text


def show_number(number):
    text = show_whole(abs(number[0]))
    if number[0] < 0:
        text = "-" + text
    if number[1] != 1:
        text = text + "/" + show_whole(number[1])
    return text


def show_parts(parts):
    """A text for each part."""
    return [str(j) + "=" + show_number(number) for j, number in parts]


def show_sheet(sheet):
    return "\n".join([" ".join([f"{i}:"] + show_parts(row)) for i, row in enumerate(sheet[1])])


def show_rows(rows):
    return "\n".join([" ".join(show_parts(parts) + ["|", show_number(right)]) for parts, right in rows])


def are_figures(text):
    """Whether the text is of figures alone, and of no more than are read."""
    return 1 <= len(text) <= MOST_FIGURES and all([sign in FIGURES for sign in text])


def read_place(n, text):
    """The place that is so written; None where none is."""
    if not are_figures(text):
        return None
    place = int(text)
    # Shown again it is the very same, so there are no noughts ahead.
    return place if is_place(n, place) and str(place) == text else None


def read_number(text):
    """The number that is so written; None where none is."""
    cut = text.partition("/")
    sign = "-" if text.startswith("-") else ""
    top = cut[0][len(sign):]
    bottom = cut[2] if cut[1] else "1"
    if not are_figures(top) or not are_figures(bottom):
        return None
    number = (int(sign + top), int(bottom))
    # Shown again it is the very same: no noughts ahead, no nought with a sign, no bottom of 1.
    return number if is_number(number) and show_number(number) == text else None


def read_part(n, word):
    """The place and the number of a part, J=NUMBER; None for what isn't so written."""
    cut = word.partition("=")
    return (read_place(n, cut[0]), read_number(cut[2]))


def read_parts(n, words):
    """The row of the parts that are so written, a word each; None where none is."""
    row = tuple([read_part(n, word) for word in words])
    # None is no place and no number, so what isn't so written makes no row either.
    return row if is_row(n, row) else None


def lines_of(text):
    if not isinstance(text, str):
        raise NoText(0)
    return text.split("\n") if text else []


def read_sheet(text):
    lines = lines_of(text)
    n = len(lines)
    rows = []
    for i, line in enumerate(lines):
        words = line.split(" ")
        row = read_parts(n, words[1:])
        if i >= MOST_PLACES or words[0] != f"{i}:" or row is None:
            raise NoText(i)
        rows.append(row)
    return (n, tuple(rows))


def read_rows(n, text):
    rows = []
    for k, line in enumerate(lines_of(text)):
        words = line.split(" ")
        parts = read_parts(n, words[:-2])
        right = read_number(words[-1])
        if k >= MOST_ROWS or words[-2:-1] != ["|"] or parts is None or right is None:
            raise NoText(k)
        rows.append((parts, right))
    return rows
