"""Promise [4]: points, their order, and integers without a common divisor."""

import unittest
from collections import namedtuple
from fractions import Fraction
from itertools import product
from math import gcd

from closechains.errors import InvalidNumber, InvalidPoint
from closechains.points import check_point, is_point, lowest, sorted_points, without_divisor

BIG = 10 ** 29 + 7


class Thing:
    """Looks like a tuple of two, but is none."""

    def __init__(self, *parts):
        self.parts = parts

    def __len__(self):
        return len(self.parts)

    def __getitem__(self, at):
        return self.parts[at]

    def __iter__(self):
        return iter(self.parts)

    def __eq__(self, other):
        return True


def by_value(point):
    top, bottom = point
    return (1, 0) if bottom == 0 else (0, Fraction(top, bottom))


class IsPointTest(unittest.TestCase):
    def test_points(self):
        for value in [(3, 2), (-3, 2), (1, 0), (0, 1), (7, 1), (-7, 1), (1, 9), (-1, 9),
                      (BIG, 10 ** 29), (10 ** 30, 10 ** 30 + 1), (1, 10 ** 30)]:
            self.assertIs(is_point(value), True, value)

    def test_tuples_of_two_integers_that_are_none(self):
        for value in [(2, 4), (-2, 4), (4, 2), (0, 2), (0, 0), (-1, 0), (2, 0), (0, -1), (1, -1),
                      (3, -2), (-3, -2), (2 * BIG, 2 * 10 ** 29), (10 ** 30, 0), (5, 5)]:
            self.assertIs(is_point(value), False, value)

    def test_all_small_tuples(self):
        for top, bottom in product(range(-9, 10), repeat=2):
            wanted = (top, bottom) == (1, 0) or bottom > 0 and gcd(top, bottom) == 1
            self.assertIs(is_point((top, bottom)), wanted)

    def test_tuples_of_other_lengths(self):
        for value in [(), (1,), (1, 0, 0), (3, 2, 1), (1, 2, 3, 4), ((3, 2),)]:
            self.assertIs(is_point(value), False, value)

    def test_other_kinds(self):
        for value in [[1, 2], [1, 0], "12", "3/2", "endless", "", b"ab", None, 0, 1, -5, 10 ** 30,
                      True, False, {}, {1: 2, 0: 1}, {1, 2}, set(), range(1, 3), [], object(),
                      Thing(), Thing(1, 2), Thing, len, ValueError("x"), NotImplemented, ...]:
            self.assertIs(is_point(value), False, value)

    def test_true_and_false_are_no_integers(self):
        for value in [(True, False), (True, 0), (1, False), (True, 1), (1, True), (3, True),
                      (False, 1), (True, 2), (0, True)]:
            self.assertIs(is_point(value), False, value)

    def test_other_things_inside(self):
        deep = 1
        for _ in range(39):
            deep = (deep,)
        for inside in ["1", "", None, (1,), [1], (1, 2), {}, object(), Thing(1), b"1", deep, (deep, 1)]:
            for value in [(inside, 1), (1, inside), (inside, 0), (inside, inside)]:
                self.assertIs(is_point(value), False)

    def test_a_tuple_with_named_parts_is_a_tuple(self):
        pair = namedtuple("pair", "top bottom")
        self.assertIs(is_point(pair(3, 2)), True)
        self.assertIs(is_point(pair(2, 4)), False)

    def test_by_name(self):
        self.assertIs(is_point(value=(1, 2)), True)
        self.assertIs(is_point(value="x"), False)

    def test_check_raises_with_the_very_tuple(self):
        self.assertIsNone(check_point((3, 2)))
        wrong = (2, 4)
        with self.assertRaises(InvalidPoint) as caught:
            check_point(wrong)
        self.assertIs(caught.exception.value, wrong)


class LowestTest(unittest.TestCase):
    def test_signs_and_divisors(self):
        for (top, bottom), wanted in [
                ((6, 4), (3, 2)), ((6, -4), (-3, 2)), ((-6, 4), (-3, 2)), ((-6, -4), (3, 2)),
                ((0, 5), (0, 1)), ((0, -5), (0, 1)), ((0, 1), (0, 1)), ((7, 7), (1, 1)),
                ((-7, 7), (-1, 1)), ((12, 1), (12, 1)), ((3, 9), (1, 3)), ((3, -1), (-3, 1))]:
            self.assertEqual(lowest(top, bottom), wanted)

    def test_only_the_bottom_0(self):
        for top in [1, -1, -5, 5, 10 ** 30, -10 ** 30]:
            self.assertEqual(lowest(top, 0), (1, 0))

    def test_both_0(self):
        with self.assertRaises(InvalidNumber) as caught:
            lowest(0, 0)
        self.assertEqual(caught.exception.value, 0)

    def test_thirty_digits(self):
        self.assertEqual(lowest(6 * BIG, -4 * BIG), (-3, 2))
        self.assertEqual(lowest(BIG, BIG + 1), (BIG, BIG + 1))
        self.assertEqual(lowest(-10 ** 30, 10 ** 29), (-10, 1))
        self.assertEqual(lowest(BIG, -BIG * 9), (-1, 9))

    def test_against_fractions(self):
        for top, bottom in product(range(-12, 13), repeat=2):
            if bottom != 0:
                value = Fraction(top, bottom)
                told = lowest(top, bottom)
                self.assertEqual(told, (value.numerator, value.denominator))
                self.assertIs(type(told), tuple)
                self.assertTrue(is_point(told))

    def test_by_name(self):
        self.assertEqual(lowest(bottom=-4, top=6), (-3, 2))


class SortedPointsTest(unittest.TestCase):
    def test_order(self):
        self.assertEqual(
            sorted_points([(1, 0), (1, 2), (-7, 1), (0, 1), (1, 3), (-1, 2), (-1, 3), (9, 1)]),
            [(-7, 1), (-1, 2), (-1, 3), (0, 1), (1, 3), (1, 2), (9, 1), (1, 0)])

    def test_equal_ones_stay(self):
        self.assertEqual(
            sorted_points([(1, 0), (1, 2), (1, 0), (1, 2), (0, 1), (1, 2)]),
            [(0, 1), (1, 2), (1, 2), (1, 2), (1, 0), (1, 0)])

    def test_few(self):
        self.assertEqual(sorted_points([]), [])
        self.assertEqual(sorted_points([(1, 0)]), [(1, 0)])
        self.assertEqual(sorted_points([(1, 0), (1, 0)]), [(1, 0), (1, 0)])
        self.assertEqual(sorted_points([(-3, 7)]), [(-3, 7)])
        self.assertEqual(sorted_points([(1, 0), (10 ** 30, 1)]), [(10 ** 30, 1), (1, 0)])

    def test_great_ones_that_lie_close_together(self):
        points = [(BIG + k, BIG + k + 1) for k in range(20)]
        points += [(-BIG - k, BIG + k + 1) for k in range(19)]
        self.assertEqual(sorted_points(points), sorted(points, key=by_value))
        near = [(10 ** 6 - 2, 10 ** 6 - 1), (10 ** 6 - 1, 10 ** 6)]
        self.assertEqual(sorted_points([near[1], near[0]]), near)

    def test_against_fractions(self):
        points = [(top, bottom) for bottom in range(7, -1, -1) for top in range(9, -10, -1)
                  if is_point((top, bottom))]
        self.assertEqual(sorted_points(points), sorted(points, key=by_value))

    def test_first_wrong_one_by_the_order_of_the_list(self):
        points = [(1, 0), (5, 1), (4, 2), (-1, 0), (0, 0)]
        with self.assertRaises(InvalidPoint) as caught:
            sorted_points(points)
        self.assertIs(caught.exception.value, points[2])
        self.assertEqual(points, [(1, 0), (5, 1), (4, 2), (-1, 0), (0, 0)])
        with self.assertRaises(InvalidPoint) as caught:
            sorted_points([(1, -3)])
        self.assertEqual(caught.exception.value, (1, -3))

    def test_the_list_stays_and_the_answer_is_new(self):
        points = [(1, 2), (1, 3)]
        told = sorted_points(points)
        self.assertEqual(points, [(1, 2), (1, 3)])
        told.append((1, 0))
        self.assertEqual(sorted_points(points), [(1, 3), (1, 2)])
        ascending = [(1, 3), (1, 2)]
        self.assertIsNot(sorted_points(ascending), ascending)
        empty = []
        self.assertIsNot(sorted_points(empty), empty)

    def test_by_name(self):
        self.assertEqual(sorted_points(points=[(1, 2), (1, 3)]), [(1, 3), (1, 2)])


class WithoutDivisorTest(unittest.TestCase):
    def test_lists(self):
        for numbers, wanted in [
                ([2, 4, -6], [1, 2, -3]), ([-2, 4], [1, -2]), ([0, 0, -3, 9], [0, 0, 1, -3]),
                ([0, 0], [0, 0]), ([0, -5], [0, 1]), ([3, 5], [3, 5]), ([], []),
                ([-BIG * 2, BIG * 3], [2, -3])]:
            kept = list(numbers)
            told = without_divisor(numbers)
            self.assertEqual(told, wanted)
            self.assertEqual(numbers, kept)
            self.assertIsNot(told, numbers)
