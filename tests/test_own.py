"""Point 2: what is handed in stays as it was, and what is told is the asker's own."""

import unittest
from copy import deepcopy

from fewfills.game import fill, filled, struck_out
from fewfills.numbers import is_less, is_number, minus, number_of, over, plus, times
from fewfills.webs import is_order, is_web, neighbours, web_of

RING = (5, ((0, 1), (0, 4), (1, 2), (2, 3), (3, 4)))


def calls():
    """Each function with arguments made anew."""
    order = [3, 0, 4, 2, 1]
    return [
        (number_of, [6, -4]), (plus, [(1, 2), (1, 3)]), (minus, [(1, 2), (1, 3)]), (times, [(1, 2), (2, 3)]),
        (over, [(1, 2), (2, 3)]), (is_less, [(1, 2), (2, 3)]), (is_number, [[1, 2]]),
        (web_of, [5, [(4, 3), (0, 1), (1, 0)]]), (is_web, [[5, [(0, 1)]]]), (neighbours, [RING, 0]),
        (is_order, [RING, order]), (struck_out, [RING, [4, 2, 0, 1], 0]), (fill, [RING, order]),
        (filled, [RING, order]),
    ]


class HandedIn(unittest.TestCase):
    def test_stays_as_it_was(self):
        for call, arguments in calls():
            before = deepcopy(arguments)
            call(*arguments)
            self.assertEqual(arguments, before, call.__name__)

    def test_changed_behind_a_call_changes_nothing_told(self):
        ties = [(0, 1), (1, 2)]
        web = web_of(3, ties)
        ties.append((0, 2))
        self.assertEqual(web, (3, ((0, 1), (1, 2))))
        order = [1, 0, 2]
        told, told_web = fill(web, order), filled(web, order)
        left = [0, 1, 2]
        struck = struck_out(web, left, 1)
        order.reverse()
        order.append(7)
        left.clear()
        self.assertEqual(told, [(0, 2)])
        self.assertEqual(told_web, (3, ((0, 1), (0, 2), (1, 2))))
        self.assertEqual(struck, (3, ((0, 2),)))
        self.assertEqual(fill(web, [0, 1, 2]), [])
        self.assertEqual(web_of(3, [(0, 1), (1, 2)]), web)


class Told(unittest.TestCase):
    def test_the_same_asked_again_is_told_the_same(self):
        for (call, arguments), (again, same) in zip(calls(), calls()):
            self.assertEqual(call(*arguments), again(*same), call.__name__)

    def test_a_told_list_is_the_askers_own(self):
        for call, arguments in calls():
            told = call(*arguments)
            if not isinstance(told, list):
                continue
            wanted = list(told)
            self.assertTrue(wanted, call.__name__)
            told[0] = "changed"
            told.append("more")
            self.assertEqual(call(*arguments), wanted, call.__name__)
            told.clear()
            self.assertEqual(call(*arguments), wanted, call.__name__)

    def test_an_empty_told_list_is_the_askers_own_too(self):
        bare = (2, ())
        neighbours(bare, 0).append(1)
        self.assertEqual(neighbours(bare, 0), [])
        self.assertEqual(neighbours(bare, 1), [])
        fill(bare, [0, 1]).append((0, 1))
        self.assertEqual(fill(bare, [0, 1]), [])
        self.assertEqual(fill(bare, [1, 0]), [])

    def test_lists_told_twice_are_two(self):
        self.assertIsNot(neighbours(RING, 0), neighbours(RING, 0))
        self.assertIsNot(fill(RING, [0, 1, 2, 3, 4]), fill(RING, [0, 1, 2, 3, 4]))
