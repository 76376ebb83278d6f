"""The desk: a sheet and an order, asked in rows of words and answered with texts."""

from fewfills.changes import with_row
from fewfills.chords import without_fill
from fewfills.errors import NoWord
from fewfills.game import fill
from fewfills.least import least
from fewfills.sheets import web_of_sheet
from fewfills.strike import solved, struck
from fewfills.texts import read_number, read_parts, read_place, read_sheet, show_number, show_sheet
from fewfills.trees import parents, waits
from fewfills.webs import check_order


def listed(words):
    return " ".join(words) if words else "none"


def list_places(places):
    return listed([str(place) for place in places])


def list_numbers(numbers):
    return listed([show_number(number) for number in numbers])


def due(value):
    """What a word was read as; refused where that is None."""
    if value is None:
        raise NoWord("this word may not stand here")
    return value


def tell_fill(web, order):
    return listed([f"{a}-{b}" for a, b in fill(web, order)])


def tell_tree(web, order):
    return listed(["." if place is None else str(place) for place in parents(web, order)])


def tell_web(web):
    told = without_fill(web)
    return " ".join([told[0]] + [str(place) for place in told[1]])


def tell_pivots(sheet, order):
    return list_numbers([step[1] for step in struck(sheet, order)])


def tell_answer(sheet, order, words):
    right = [due(read_number(word)) for word in words]
    return list_numbers(solved(sheet[0], struck(sheet, order), right))


def tell_alone(sheet, order, word):
    """The answer to a row of one word."""
    web = web_of_sheet(sheet)
    if word == "fill":
        return tell_fill(web, order)
    if word == "tree":
        return tell_tree(web, order)
    if word == "web":
        return tell_web(web)
    if word == "least":
        return str(least(web)[0])
    if word == "pivots":
        return tell_pivots(sheet, order)
    if word == "show":
        return show_sheet(sheet)
    raise NoWord("no row is this word alone")


def tell(sheet, order, words):
    """The answer to a row that changes nothing."""
    if words[0] == "waits" and len(words) == 2:
        return list_places(waits(web_of_sheet(sheet), order, due(read_place(sheet[0], words[1]))))
    if words[0] == "answer" and len(words) == sheet[0] + 1:
        return tell_answer(sheet, order, words[1:])
    if len(words) == 1:
        return tell_alone(sheet, order, words[0])
    raise NoWord("no row has this first word and so many")


class Desk:
    """Keeps a sheet and an order; what is refused changes neither."""

    def __init__(self, text):
        self.sheet = read_sheet(text)
        self.order = list(range(self.sheet[0]))

    def say(self, row):
        if not isinstance(row, str):
            raise NoWord("a row is a text")
        words = row.split(" ")
        if words[0] == "order":
            return self.take_order(words[1:])
        if words[0] == "row" and len(words) > 1:
            return self.take_row(words[1], words[2:])
        return tell(self.sheet, self.order, words)

    def take_order(self, words):
        order = [due(read_place(self.sheet[0], word)) for word in words]
        check_order((self.sheet[0], ()), order)
        self.order = order
        return "ok"

    def take_row(self, word, words):
        i = due(read_place(self.sheet[0], word))
        told = with_row(self.sheet, self.order, i, due(read_parts(self.sheet[0], words)))
        self.sheet = told[0]
        return list_places(told[1])
