"""The interface: each name is there, with the arguments that the document tells, in their order."""

import inspect
import unittest
from importlib import import_module

INTERFACE = {
    "numbers": "number_of(top, bottom) plus(a, b) minus(a, b) times(a, b) over(a, b) is_less(a, b) is_number(thing)",
    "webs": "web_of(n, ties) is_web(thing) neighbours(web, v) is_order(web, thing)",
    "game": "struck_out(web, left, v) fill(web, order) filled(web, order)",
    "trees": "parents(web, order) waits(web, order, v) keeps(parents, order)",
    "chords": "is_ring(web, thing) is_bare(web, thing) chords_of(web, ring) without_fill(web)",
    "papers": "denies(web, k, paper)",
    "least": "least(web)",
    "parting": "pieces(web, some) shores(web, some) may_come(web, some)",
    "sheets": "sheet_of(n, rows) is_sheet(thing) number_at(sheet, i, j) web_of_sheet(sheet) showing(web)",
    "strike": "struck(sheet, order) put_back(n, work) solved(n, work, right)",
    "fronts": "fronts(sheet, order)",
    "answers": "answer(n, rows) is_answer(rows, x) is_mix(n, rows, mix) is_way(rows, way) "
               "holds(n, rows, free, place, mix)",
    "changes": "touched(web, order, pairs) changed(sheet, order, work, i, row)",
    "texts": "show_number(number) show_sheet(sheet) show_rows(rows) read_sheet(text) read_rows(n, text)",
    "desk": "Desk(text)",
}


class Interface(unittest.TestCase):
    def test_each_name_with_its_arguments(self):
        for module, told in INTERFACE.items():
            for one in told.replace(") ", ")\n").split("\n"):
                name = one.partition("(")[0]
                there = getattr(import_module(f"fewfills.{module}"), name)
                self.assertEqual(name + str(inspect.signature(there)), one)
                self.assertEqual(there.__module__, f"fewfills.{module}")

    def test_what_a_desk_is_told(self):
        say = import_module("fewfills.desk").Desk("").say
        self.assertEqual(str(inspect.signature(say)), "(row)")

    def test_the_package_itself_binds_no_name(self):
        package = import_module("fewfills")
        modules = sorted(INTERFACE) + ["errors"]
        self.assertEqual([name for name in vars(package) if not name.startswith("__") and name not in modules], [])
