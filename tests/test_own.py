"""Point 2: what is handed in stays as it was, and what is told is the asker's own."""

import unittest
from copy import deepcopy

from fewfills.answers import answer, holds, is_answer, is_mix, is_way
from fewfills.changes import changed, touched
from fewfills.chords import chords_of, is_bare, is_ring, without_fill
from fewfills.desk import Desk
from fewfills.errors import NoWord
from fewfills.fronts import fronts
from fewfills.game import fill, filled, struck_out
from fewfills.least import least
from fewfills.numbers import is_less, is_number, minus, number_of, over, plus, times
from fewfills.papers import denies
from fewfills.parting import may_come, pieces, shores
from fewfills.sheets import is_sheet, number_at, sheet_of, showing, web_of_sheet
from fewfills.strike import put_back, solved, struck
from fewfills.texts import read_rows, read_sheet, show_number, show_rows, show_sheet
from fewfills.trees import keeps, parents, waits
from fewfills.webs import is_order, is_web, neighbours, web_of
from tests.helpers import RING, two_sides, with_ties

SIDES = two_sides(3, 4)
ONE = (1, 1)
SHEET = (3, (((0, (2, 1)), (1, ONE)), ((0, (4, 1)), (1, (5, 1)), (2, (3, 1))), ((1, (-6, 1)), (2, ONE))))


def calls():
    """Each function with arguments made anew."""
    return calls_on_webs() + calls_on_sheets() + calls_on_rows()


def rows():
    """Two rows of three unknowns."""
    return [(((0, ONE), (2, (1, 2))), (3, 1)), (((1, (2, 1)),), (0, 1))]


def calls_on_rows():
    two, four, nought = (2, 1), (4, 1), (0, 1)
    order, text = [1, 2, 0], "0: 0=2 1=1\n1:"
    only, none = [(((0, two),), ONE)], [((), nought), ((), two)]
    return [
        (answer, [3, rows()]), (answer, [1, only]), (answer, [1, none]), (is_answer, [rows(), [two, nought, two]]),
        (is_mix, [1, none, [ONE, (1, 2)]]), (is_way, [rows(), [(-1, 1), nought, two]]),
        (holds, [3, rows(), [2], 0, [ONE, nought]]), (touched, [RING, [3, 0, 4, 2, 1], [(0, 1), (2, 2)]]),
        (changed, [SHEET, order, struck(SHEET, order), 1, ((0, four), (1, ONE))]),
        (changed, [SHEET, order, struck(SHEET, order), 0, ((0, four), (1, ONE))]),
        (show_number, [(-3, 4)]), (show_sheet, [SHEET]), (show_rows, [rows()]), (read_sheet, [text]),
        (read_rows, [3, show_rows(rows())]),
    ]


def calls_on_sheets():
    order = [1, 2, 0]
    return [
        (sheet_of, [3, [[(1, ONE), (0, (2, 1))], ((2, ONE),), []]]), (is_sheet, [[3, [[(0, ONE)], [], []]]]),
        (number_at, [SHEET, 1, 2]), (web_of_sheet, [SHEET]), (showing, [RING]), (struck, [SHEET, order]),
        (put_back, [3, struck(SHEET, order)]), (solved, [3, struck(SHEET, order), [ONE, (1, 2), (0, 1)]]),
        (fronts, [SHEET, order]), (fronts, [showing(RING), [3, 0, 4, 2, 1]]),
    ]


def calls_on_webs():
    order = [3, 0, 4, 2, 1]
    return [
        (number_of, [6, -4]), (plus, [(1, 2), (1, 3)]), (minus, [(1, 2), (1, 3)]), (times, [(1, 2), (2, 3)]),
        (over, [(1, 2), (2, 3)]), (is_less, [(1, 2), (2, 3)]), (is_number, [[1, 2]]),
        (web_of, [5, [(4, 3), (0, 1), (1, 0)]]), (is_web, [[5, [(0, 1)]]]), (neighbours, [RING, 0]),
        (is_order, [RING, order]), (struck_out, [RING, [4, 2, 0, 1], 0]), (fill, [RING, order]),
        (filled, [RING, order]), (parents, [RING, order]), (waits, [RING, order, 1]),
        (keeps, [[1, 2, 3, 4, None], order]), (is_ring, [RING, [1, 0, 4, 3, 2]]), (is_bare, [RING, [1, 0, 4, 3, 2]]),
        (chords_of, [with_ties(RING, (0, 2), (1, 3)), [1, 0, 4, 3, 2]]), (without_fill, [RING]),
        (without_fill, [(5, RING[1][1:])]), (denies, [RING, 1, ("need", [1, 0, 4, 3, 2])]),
        (denies, [RING, 1, paper()]),
        (denies, [SIDES, 2, least(SIDES)[2]]), (least, [RING]), (least, [SIDES]), (least, [(5, RING[1][1:])]),
        (pieces, [RING, [3, 1]]), (shores, [RING, [3, 1]]), (may_come, [RING, [3, 1]]), (may_come, [RING, [4, 0, 2]]),
    ]


def paper():
    """A paper in which papers lie, against 1 of the ring."""
    needs = [[0, 2, 3, 4], [0, 1, 2, 3], [0, 1, 3, 4], [1, 2, 3, 4], [0, 1, 2, 4]]
    return ("chords", [0, 1, 2, 3, 4], tuple([("need", ring) for ring in needs]))


def lists_within(thing):
    """All lists that a told thing holds, itself too."""
    found = [thing] if isinstance(thing, list) else []
    if isinstance(thing, (list, tuple)):
        for inner in thing:
            found += lists_within(inner)
    return found


class HandedIn(unittest.TestCase):
    def test_stays_as_it_was(self):
        for call, arguments in calls():
            before = deepcopy(arguments)
            call(*arguments)
            self.assertEqual(arguments, before, call.__name__)

    def test_changed_behind_a_call_changes_nothing_told(self):
        ties = [(0, 1), (1, 2)]
        web = web_of(3, ties)
        ties.append((0, 2))
        self.assertEqual(web, (3, ((0, 1), (1, 2))))
        order = [1, 0, 2]
        told, told_web = fill(web, order), filled(web, order)
        left = [0, 1, 2]
        struck = struck_out(web, left, 1)
        order.reverse()
        order.append(7)
        left.clear()
        self.assertEqual(told, [(0, 2)])
        self.assertEqual(told_web, (3, ((0, 1), (0, 2), (1, 2))))
        self.assertEqual(struck, (3, ((0, 2),)))
        self.assertEqual(fill(web, [0, 1, 2]), [])
        self.assertEqual(web_of(3, [(0, 1), (1, 2)]), web)


    def test_rows_partings_and_right_sides_changed_behind_a_call(self):
        rows = [[(1, ONE), (0, ONE)], []]
        sheet = sheet_of(2, rows)
        rows[0].clear()
        rows[1].append((0, ONE))
        rows.append([])
        self.assertEqual(sheet, (2, (((0, ONE), (1, ONE)), ())))
        some = [3, 1]
        told = [call(RING, some) for call in (pieces, shores, may_come)]
        some.clear()
        self.assertEqual(told, [[[0, 4], [2]], [[1, 3], [1, 3]], [(0, 3), (1, 3), (1, 4)]])
        order, right = [0, 1, 2], [(4, 1), (23, 1), (-9, 1)]
        work, front = struck(SHEET, order), fronts(SHEET, order)
        x = solved(3, work, right)
        back = put_back(3, work)
        wanted = deepcopy((work[1:], front, x, back))
        order.reverse()
        right.clear()
        work.pop(0)
        self.assertEqual((work, front, x, back), wanted)
        self.assertEqual(x, [(1, 1), (2, 1), (3, 1)])
        self.assertEqual(back, SHEET)
        self.assertEqual(struck(SHEET, [0, 1, 2])[1:], work)


    def test_rows_works_and_mixes_changed_behind_a_call(self):
        given = rows()
        told, text = answer(3, given), show_rows(given)
        wanted = deepcopy(told)
        given.pop()
        self.assertEqual(told, wanted)
        self.assertEqual(text, "0=1 2=1/2 | 3\n1=2 | 0")
        self.assertEqual(answer(3, rows()), wanted)
        order = [0, 1, 2]
        work, pairs = struck(SHEET, order), [(0, 1)]
        told, marked = changed(SHEET, order, work, 2, ((2, ONE),)), touched(RING, [0, 1, 2, 3, 4], pairs)
        wanted = deepcopy(told)
        order.reverse()
        work.clear()
        pairs.clear()
        self.assertEqual(told, wanted)
        self.assertEqual(marked, [0, 1, 2, 3, 4])
        told[1].pop()
        self.assertEqual(changed(SHEET, [0, 1, 2], struck(SHEET, [0, 1, 2]), 2, ((2, ONE),)), wanted)

    def test_a_work_handed_in_is_not_the_one_that_is_told(self):
        order = [0, 1, 2]
        work = struck(SHEET, order)
        told = changed(SHEET, order, work, 2, SHEET[1][2])
        self.assertEqual(told, (SHEET, work, []))
        told[1].clear()
        self.assertEqual(work, struck(SHEET, order))


class Desks(unittest.TestCase):
    def test_keep_nothing_of_one_another(self):
        text = show_sheet(SHEET)
        first, second = Desk(text), Desk(text)
        first.say("order 2 1 0")
        first.say("row 0")
        self.assertEqual([second.say("show"), second.say("tree")], [text, "1 2 ."])
        self.assertEqual(Desk(text).say("pivots"), second.say("pivots"))

    def test_a_refused_row_changes_nothing(self):
        desk = Desk(show_sheet(SHEET))
        for row in ("order 2 1 x", "row 0 0=3 x", "", None):
            self.assertRaises(NoWord, desk.say, row)
        self.assertEqual([desk.say("show"), desk.say("tree")], [show_sheet(SHEET), "1 2 ."])


class Told(unittest.TestCase):
    def test_the_same_asked_again_is_told_the_same(self):
        for (call, arguments), (again, same) in zip(calls(), calls()):
            self.assertEqual(call(*arguments), again(*same), call.__name__)

    def test_a_told_list_is_the_askers_own(self):
        for call, arguments in calls():
            told = call(*arguments)
            if not isinstance(told, list):
                continue
            wanted = deepcopy(told)
            self.assertTrue(wanted, call.__name__)
            told[0] = "changed"
            told.append("more")
            self.assertEqual(call(*arguments), wanted, call.__name__)
            told.clear()
            self.assertEqual(call(*arguments), wanted, call.__name__)

    def test_lists_within_what_is_told_are_the_askers_own(self):
        for call, arguments in calls():
            wanted = deepcopy(call(*arguments))
            for change in (list.clear, list.reverse, lambda told: told.append(0), lambda told: told.insert(0, "more")):
                for told in lists_within(call(*arguments)):
                    change(told)
                self.assertEqual(call(*arguments), wanted, call.__name__)

    def test_no_list_is_told_at_two_places(self):
        for call, arguments in calls():
            # Kept, so that no list goes and leaves its place in memory to another one.
            handed_in, first, second = lists_within(arguments), call(*arguments), call(*arguments)
            lists = handed_in + lists_within(first) + lists_within(second)
            self.assertEqual(len({id(one) for one in lists}), len(lists), call.__name__)

    def test_rings_within_told_papers_are_the_askers_own(self):
        told = least(SIDES)
        rings = lists_within(told[2])
        self.assertGreater(len(rings), 3)
        wanted = deepcopy(told)
        rings[-1].clear()
        self.assertEqual([len(ring) for ring in rings[:-1]], [4] * (len(rings) - 1))
        self.assertEqual(least(SIDES), wanted)
        self.assertIs(denies(SIDES, 2, told[2]), False)
        self.assertIs(denies(SIDES, 2, wanted[2]), True)

    def test_a_paper_changed_behind_a_call_is_asked_anew(self):
        given = paper()
        self.assertIs(denies(RING, 1, given), True)
        given[2][3][1].reverse()
        self.assertIs(denies(RING, 1, given), True)
        given[2][3][1].pop()
        self.assertIs(denies(RING, 1, given), False)
        given[2][3][1].insert(0, 4)
        self.assertIs(denies(RING, 1, given), False)
        self.assertIs(denies(RING, 1, paper()), True)

    def test_orders_and_parents_changed_behind_a_call(self):
        order = [0, 1, 2, 3, 4]
        tree, told = parents(RING, order), waits(RING, order, 2)
        order.reverse()
        self.assertEqual(tree, [1, 2, 3, 4, None])
        self.assertEqual(told, [0, 1])
        self.assertEqual(parents(RING, order), [None, 0, 1, 2, 3])
        self.assertIs(keeps(tree, order), False)
        tree.clear()
        tree.extend([None] * 5)
        self.assertIs(keeps(tree, order), True)
        self.assertEqual(parents(RING, [0, 1, 2, 3, 4]), [1, 2, 3, 4, None])

    def test_an_empty_told_list_is_the_askers_own_too(self):
        bare = (2, ())
        neighbours(bare, 0).append(1)
        self.assertEqual(neighbours(bare, 0), [])
        self.assertEqual(neighbours(bare, 1), [])
        fill(bare, [0, 1]).append((0, 1))
        self.assertEqual(fill(bare, [0, 1]), [])
        self.assertEqual(fill(bare, [1, 0]), [])
        waits(bare, [0, 1], 1).append(0)
        self.assertEqual(waits(bare, [0, 1], 1), [])
        chords_of(RING, [0, 1, 2, 3, 4]).append((0, 2))
        self.assertEqual(chords_of(RING, [0, 1, 2, 3, 4]), [])
        nothing = (0, ())
        parents(nothing, []).append(None)
        self.assertEqual(parents(nothing, []), [])
        without_fill(nothing)[1].append(0)
        self.assertEqual(without_fill(nothing), ("order", []))
        least(nothing)[1].append(0)
        self.assertEqual(least(nothing), (0, [], None))
        for call in (pieces, shores, may_come):
            call(nothing, []).append(0)
            self.assertEqual(call(nothing, []), [])
        shores(bare, [])[0].append(1)
        self.assertEqual(shores(bare, []), [[], []])
        for call in (struck, fronts):
            call((0, ()), []).append(0)
            self.assertEqual(call((0, ()), []), [])
        read_rows(3, "").append(0)
        self.assertEqual(read_rows(3, ""), [])
        touched(RING, [0, 1, 2, 3, 4], []).append(0)
        self.assertEqual(touched(RING, [0, 1, 2, 3, 4], []), [])
        for told in answer(0, [])[1:]:
            told.append(0)
        self.assertEqual(answer(0, []), ("one", [], []))
        solved(0, [], []).append(0)
        self.assertEqual(solved(0, [], []), [])

    def test_lists_told_twice_are_two(self):
        self.assertIsNot(neighbours(RING, 0), neighbours(RING, 0))
        self.assertIsNot(fill(RING, [0, 1, 2, 3, 4]), fill(RING, [0, 1, 2, 3, 4]))
