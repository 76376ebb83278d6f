"""Point 4: numbers in lowest terms."""

import unittest
from fractions import Fraction
from math import gcd

from fewfills.errors import NoNumber
from fewfills.numbers import is_less, is_number, minus, number_of, over, plus, times
from tests.helpers import nested_lists, odd_things

SOME = [number_of(top, bottom) for top in range(-7, 8) for bottom in (1, 2, 3, 4, 6, 35)]
WIDE = [
    (0, 1), (1, 1), (-1, 1), (999999, 1), (-999999, 1), (1, 999999), (-1, 999999), (999999, 999998),
    (-999998, 999999), (510510, 999983), (-720720, 999979), (3, 4), (-3, 4),
]


def pair(fraction):
    return (fraction.numerator, fraction.denominator)


def great_number(figures):
    """A number the top and the bottom of which have so many figures."""
    top = 10 ** (figures - 1) + 7
    bottom = 3 * 10 ** (figures - 1) + 20
    while gcd(top, bottom) != 1:
        top += 1
    return (top, bottom)


class Made(unittest.TestCase):
    def test_in_lowest_terms_with_either_sign(self):
        self.assertEqual(number_of(6, 4), (3, 2))
        self.assertEqual(number_of(-6, 4), (-3, 2))
        self.assertEqual(number_of(6, -4), (-3, 2))
        self.assertEqual(number_of(-6, -4), (3, 2))
        self.assertEqual(number_of(5, 5), (1, 1))
        self.assertEqual(number_of(5, -5), (-1, 1))
        self.assertEqual(number_of(7, 1), (7, 1))
        self.assertEqual(number_of(7, -1), (-7, 1))
        self.assertEqual(number_of(999999, 333333), (3, 1))

    def test_nought_above(self):
        for bottom in (1, 2, 999999, -1, -2, -999999):
            self.assertEqual(number_of(0, bottom), (0, 1))

    def test_all_small_ones(self):
        for top in range(-40, 41):
            for bottom in range(-40, 41):
                if bottom != 0:
                    self.assertEqual(number_of(top, bottom), pair(Fraction(top, bottom)))

    def test_nought_below_is_refused(self):
        for top in (0, 1, -1, 999999, 10 ** 300):
            with self.assertRaises(NoNumber):
                number_of(top, 0)

    def test_a_tuple_of_two_whole_numbers_is_told(self):
        told = number_of(4, -2)
        self.assertIs(type(told), tuple)
        self.assertEqual([type(part) for part in told], [int, int])


class Reckoned(unittest.TestCase):
    def check(self, a, b):
        first, second = Fraction(*a), Fraction(*b)
        self.assertEqual(plus(a, b), pair(first + second))
        self.assertEqual(minus(a, b), pair(first - second))
        self.assertEqual(times(a, b), pair(first * second))
        if second != 0:
            self.assertEqual(over(a, b), pair(first / second))

    def test_by_hand(self):
        self.assertEqual(plus((1, 6), (1, 3)), (1, 2))
        self.assertEqual(plus((1, 2), (-1, 2)), (0, 1))
        self.assertEqual(minus((1, 2), (2, 3)), (-1, 6))
        self.assertEqual(minus((3, 4), (3, 4)), (0, 1))
        self.assertEqual(times((2, 3), (-3, 4)), (-1, 2))
        self.assertEqual(times((0, 1), (-3, 4)), (0, 1))
        self.assertEqual(over((1, 2), (-3, 4)), (-2, 3))
        self.assertEqual(over((0, 1), (-3, 4)), (0, 1))

    def test_small_ones(self):
        for a in SOME:
            for b in SOME:
                self.check(a, b)

    def test_wide_ones(self):
        for a in WIDE:
            for b in WIDE:
                self.check(a, b)

    def test_over_nought_is_refused(self):
        for a in SOME + WIDE:
            with self.assertRaises(NoNumber):
                over(a, (0, 1))

    def test_told_numbers_that_have_grown_great(self):
        told, wanted = (1, 1), Fraction(1)
        for k in range(1, 80):
            step = (999983 - k, -999979 - 2 * k)
            step = number_of(step[0], step[1])
            told = plus(times(told, step), (k, 7))
            wanted = wanted * Fraction(*step) + Fraction(k, 7)
            self.assertEqual(told, pair(wanted))
            self.check(told, step)
            self.check(step, told)
        self.assertGreater(told[1], 10 ** 300)
        self.assertEqual(over(told, told), (1, 1))
        self.assertEqual(minus(told, told), (0, 1))
        self.assertEqual(times(over((1, 1), told), told), (1, 1))

    def test_near_four_thousand_figures(self):
        a = great_number(1900)
        b = (-a[1], a[0])
        self.check(a, b)
        self.assertEqual(times(a, b), (-1, 1))


class Less(unittest.TestCase):
    def test_small_and_wide_ones(self):
        for a in SOME + WIDE:
            for b in SOME + WIDE:
                self.assertIs(is_less(a, b), Fraction(*a) < Fraction(*b))

    def test_near_neighbours(self):
        # The products over cross differ by one alone: no rounding may come between.
        near = (10 ** 40, 10 ** 40 + 1)
        nearer = (10 ** 40 + 1, 10 ** 40 + 2)
        self.assertIs(is_less(near, nearer), True)
        self.assertIs(is_less(nearer, near), False)
        self.assertIs(is_less((-nearer[0], nearer[1]), (-near[0], near[1])), True)
        self.assertIs(is_less((-near[0], near[1]), (-nearer[0], nearer[1])), False)
        self.assertIs(is_less((999997, 999998), (999998, 999999)), True)
        self.assertIs(is_less((999998, 999999), (999997, 999998)), False)

    def test_a_number_is_not_less_than_itself(self):
        for a in SOME + WIDE + [great_number(400)]:
            self.assertIs(is_less(a, a), False)

    def test_round_nought(self):
        self.assertIs(is_less((-1, 999999), (0, 1)), True)
        self.assertIs(is_less((0, 1), (1, 999999)), True)
        self.assertIs(is_less((0, 1), (-1, 999999)), False)
        self.assertIs(is_less((1, 2), (-2, 1)), False)


class IsNumber(unittest.TestCase):
    def test_all_small_pairs(self):
        for top in range(-30, 31):
            for bottom in range(-30, 31):
                wanted = bottom >= 1 and gcd(top, bottom) == 1
                self.assertIs(is_number((top, bottom)), wanted, (top, bottom))

    def test_nought_is_nought_over_one_alone(self):
        self.assertIs(is_number((0, 1)), True)
        for bottom in (2, 3, 0, -1, 10 ** 300):
            self.assertIs(is_number((0, bottom)), False)

    def test_what_is_told_is_one(self):
        for a in SOME + WIDE:
            self.assertIs(is_number(a), True)

    def test_some_hundreds_of_figures(self):
        for figures in (61, 300, 900, 4400):
            top, bottom = great_number(figures)
            self.assertIs(is_number((top, bottom)), True)
            self.assertIs(is_number((-top, bottom)), True)
            self.assertIs(is_number((top * 3, bottom * 3)), False)
            self.assertIs(is_number((top, -bottom)), False)

    def test_truths_are_no_whole_numbers(self):
        for thing in ((True, 1), (1, True), (False, 1), (True, True), (3, True), (False, True), (0, False)):
            self.assertIs(is_number(thing), False)

    def test_things_of_other_kinds(self):
        for thing in odd_things() + nested_lists() + [0, 1, -5, [], (), [1, 2], [0, 1], [(1, 2)]]:
            self.assertIs(is_number(thing), False)

    def test_parts_of_other_kinds(self):
        for part in odd_things() + nested_lists() + [(), (1, 2), (1,), [1]]:
            self.assertIs(is_number((part, 1)), False)
            self.assertIs(is_number((1, part)), False)
            self.assertIs(is_number((part, part)), False)

    def test_one_part_or_three(self):
        for thing in ((1,), (1, 2, 3), (1, 1, 1), (0, 1, 0), ((1, 2),), ((1, 2), (3, 4))):
            self.assertIs(is_number(thing), False)
