"""Polygons: their sides, the curve that all sides touch, and where each of them touches it."""

import unittest
from fractions import Fraction
from itertools import product
from math import gcd

from closechains.chains import chain, member
from closechains.errors import Bent, InvalidPoint, NotPair
from closechains.points import is_point
from closechains.polygons import side, touched, touching
from closechains.relations import Relation, partners
from closechains.steps import step_numbers
from tests.helper import (ENDING_NEVER, FIVE, FREE, PAIRLESS, SQUARE, adjugate, great_relation,
                          known_closing, primitive, side_matrix, told_sum)

GREAT = [99999989, -99999971, 99999941, 10 ** 8, -99999877, 3]
POINTS = [(1, 0)] + [(top, bottom) for bottom in range(1, 5) for top in range(-7, 8)
                     if is_point((top, bottom))]
WRONG = [(2, 4), (0, 0), (-1, 0), (3, -2), (0, 2)]
RELATIONS = ([row[1] for row in known_closing()] + [row[0] for row in PAIRLESS]
             + [row[0] for row in ENDING_NEVER] + [GREAT, [3, -2, 5, 7, -1, 4], [0, 1, -1, 1, 1, 0]])


def known_pairs():
    """Pairs of chains, as (numbers, first, second)."""
    for numbers, first, second in [row[1:] for row in known_closing()] + ENDING_NEVER:
        told = [member(Relation(numbers), first, second, k) for k in range(-5, 9)]
        for one, other in zip(told, told[1:]):
            yield numbers, one, other


def curve_rows(curve):
    """Twice the quadratic form of a curve, for X, Y, Z of a point."""
    a, b, c, d, e, f = curve
    return [[2 * a, b, d], [b, 2 * c, e], [d, e, 2 * f]]


def times(rows, told):
    return [sum(x * y for x, y in zip(row, told)) for row in rows]


def told_twice(curve, told):
    """Twice what the curve says of a point: 0 if it lies on it."""
    return sum(x * y for x, y in zip(told, times(curve_rows(curve), told)))


def apart(curve, x, y):
    """0 if the line through the corners x and y, two fractions, meets a curve in one point.

    On this line Y is m*X + n, and X is a root of an equation of degree two.
    """
    a, b, c, d, e, f = curve
    m, n = x + y, -x * y
    return (b*n + 2*c*m*n + d + e*m) ** 2 - 4 * (a + b*m + c*m*m) * (c*n*n + e*n + f)


class Told(unittest.TestCase):
    def check_told(self, told, length):
        self.assertIs(type(told), list)
        self.assertEqual(len(told), length)
        self.assertEqual(gcd(*told), 1)
        self.assertGreater(next(x for x in told if x != 0), 0)


class SideTest(Told):
    def test_known_ones(self):
        for first, second, wanted in [
                ((1, 1), (2, 1), [3, -1, -2]), ((1, 1), (1, 0), [1, 0, -1]), ((1, 0), (1, 0), [0, 0, 1]),
                ((0, 1), (0, 1), [0, 1, 0]), ((0, 1), (1, 0), [1, 0, 0]), ((0, 1), (1, 1), [1, -1, 0]),
                ((1, 1), (-1, 1), [0, 1, -1]), ((1, 2), (-1, 2), [0, 4, -1]), ((1, 1), (1, 1), [2, -1, -1]),
                ((-1, 1), (-1, 1), [2, 1, 1]), ((-3, 2), (1, 0), [2, 0, 3]), ((-2, 1), (-3, 1), [5, 1, 6]),
                ((1, 3), (2, 3), [9, -9, -2]), ((3, 2), (2, 3), [13, -6, -6]), ((3, 1), (3, 1), [6, -1, -9]),
                ((10 ** 6, 1), (-10 ** 6, 1), [0, 1, -10 ** 12]),
                ((10 ** 6, 999999), (1, 0), [999999, 0, -10 ** 6])]:
            self.assertEqual(side(first, second), wanted)
            self.assertEqual(side(second, first), wanted)

    def test_every_pair_of_small_points(self):
        for first, second in product(POINTS, repeat=2):
            told = side(first, second)
            self.check_told(told, 3)
            self.assertEqual(told, side(second, first))
            a, b, c = told
            for p, q in (first, second):
                # The corner is (p*q, p*p) by q*q; endlessly far up are the lines without Y.
                self.assertEqual(a * p * q + b * p * p + c * q * q, 0)
            if first == second:
                self.assertEqual(a * a, 4 * b * c)  # the tangent meets the curve once
            else:
                self.assertGreater(a * a, 4 * b * c)

    def test_upright_lines(self):
        for top, bottom in POINTS[1:]:
            a, b, c = side((top, bottom), (1, 0))
            self.assertEqual([a, b, c], [bottom, 0, -top])

    def test_a_new_list_each_time(self):
        told = side((1, 1), (2, 1))
        told.clear()
        self.assertEqual(side((1, 1), (2, 1)), [3, -1, -2])

    def test_wrong_points(self):
        for wrong in WRONG:
            for other in [(1, 1), (1, 0), (0, 1)]:
                self.check_wrong(wrong, other, wrong)
                self.check_wrong(other, wrong, wrong)
        for first, second in product(WRONG, repeat=2):
            self.check_wrong(first, second, first)

    def check_wrong(self, first, second, wrong):
        with self.assertRaises(InvalidPoint) as caught:
            side(first, second)
        self.assertIs(caught.exception.value, wrong)

    def test_by_name(self):
        self.assertEqual(side(second=(2, 1), first=(1, 1)), [3, -1, -2])


class TouchedTest(Told):
    def test_known_ones(self):
        for numbers, wanted in [
                (SQUARE, [45, 0, -4, 0, -28, -4]),
                ([0, 1, 0, 0, 0, -1], [0, 0, 1, 4, 0, 0]),
                (great_relation(2), [25, -10, 1, -14, -2, 1]),
                ([1, 0, 1, 0, 0, 5], [4, 0, 1, 0, 2, 5])]:
            self.assertEqual(touched(Relation(numbers)), wanted)

    def test_all_lines_that_touch_it_have_the_relation(self):
        told = [Fraction(k, n) for n in (1, 2, 5) for k in (-7, -3, -1, 0, 2, 4, 11)]
        for numbers in RELATIONS:
            curve = touched(Relation(numbers))
            self.check_told(curve, 6)
            found = set()
            for x, y in product(told, repeat=2):
                first, second = (x.numerator, x.denominator), (y.numerator, y.denominator)
                wanted = Fraction(told_sum(numbers, first, second), (x.denominator * y.denominator) ** 2)
                if wanted == 0:
                    self.assertEqual(apart(curve, x, y), 0)
                else:
                    found.add(apart(curve, x, y) / wanted)
            self.assertEqual(len(found), 1)
            self.assertNotEqual(found.pop(), 0)

    def test_sides_of_chains_touch_it(self):
        for numbers, first, second in known_pairs():
            rows = adjugate(curve_rows(touched(Relation(numbers))))
            line = side(first, second)
            self.assertEqual(sum(x * y for x, y in zip(line, times(rows, line))), 0)

    def test_other_lines_do_not(self):
        relation = Relation(FREE)
        rows = adjugate(curve_rows(touched(relation)))
        for first, second in product(POINTS, repeat=2):
            line = side(first, second)
            found = sum(x * y for x, y in zip(line, times(rows, line)))
            self.assertEqual(found == 0, second in partners(relation, first))

    def test_it_is_no_pair_of_lines(self):
        # The determinant of its form is not 0.
        for numbers in RELATIONS:
            rows = curve_rows(touched(Relation(numbers)))
            self.assertNotEqual(sum(x * y for x, y in zip(rows[0], adjugate(rows)[0])), 0)
            flat = [x for row in adjugate(rows) for x in row]
            self.assertEqual(primitive(flat), primitive([x for row in side_matrix(numbers) for x in row]))

    def test_other_multiples(self):
        for numbers in RELATIONS:
            wanted = touched(Relation(numbers))
            for factor in (-1, 2, -7, 10 ** 12):
                self.assertEqual(touched(Relation([factor * x for x in numbers])), wanted)

    def test_members_some_steps_apart(self):
        for numbers, first, second in ENDING_NEVER[:3]:
            told = chain(Relation(numbers), first, second, 12)
            for number in (2, 3, 4):
                relation = Relation(step_numbers(Relation(numbers), number))
                for one, other in zip(told, told[number:]):
                    point = touching(relation, one, other)
                    self.assertEqual(told_twice(touched(relation), point), 0)

    def test_a_new_list_each_time(self):
        relation = Relation(SQUARE)
        told = touched(relation)
        told.clear()
        self.assertEqual(touched(relation), [45, 0, -4, 0, -28, -4])
        self.assertEqual(relation.numbers, SQUARE)

    def test_by_name(self):
        self.assertEqual(touched(relation=Relation(SQUARE)), [45, 0, -4, 0, -28, -4])


class TouchingTest(Told):
    def check(self, numbers, first, second):
        relation = Relation(numbers)
        told = touching(relation, first, second)
        self.check_told(told, 3)
        line, curve = side(first, second), touched(relation)
        self.assertEqual(sum(x * y for x, y in zip(line, told)), 0)
        self.assertEqual(told_twice(curve, told), 0)
        # The tangent of the curve there is the side, so that it meets it nowhere else.
        self.assertEqual(primitive(times(curve_rows(curve), told)), line)
        self.assertEqual(touching(relation, second, first), told)
        return told

    def test_known_ones(self):
        for numbers, first, second, wanted in [
                (SQUARE, (1, 1), (2, 1), [2, 4, 1]), (SQUARE, (1, 1), (1, 2), [2, 1, 4]),
                (FREE, (1, 0), (0, 1), [0, 1, 0]), (FIVE, (1, 0), (1, 0), [1, 11, 0])]:
            self.assertEqual(self.check(numbers, first, second), wanted)

    def test_pairs_of_chains(self):
        far = 0
        for numbers, first, second in known_pairs():
            far += self.check(numbers, first, second)[2] == 0
        self.assertGreater(far, 10)

    def test_every_pair_of_small_points(self):
        found, below, far = 0, 0, 0
        for numbers in RELATIONS:
            for first in POINTS:
                for second in partners(Relation(numbers), first):
                    told = self.check(numbers, first, second)
                    found += 1
                    below += told[2] < 0
                    far += told[2] == 0
        self.assertGreater(found, 300)
        self.assertGreater(below, 30)
        self.assertGreater(far, 10)

    def test_the_only_point_of_both(self):
        # On the side Y is m*X + n, and the equation for X has this root twice.
        checked = 0
        for numbers, (p, q), (r, s) in known_pairs():
            x, y, z = touching(Relation(numbers), (p, q), (r, s))
            if q * s * z != 0:
                a, b, c, d, e, f = touched(Relation(numbers))
                m, n = Fraction(p, q) + Fraction(r, s), -Fraction(p * r, q * s)
                high, middle = a + b*m + c*m*m, b*n + 2*c*m*n + d + e*m
                self.assertNotEqual(high, 0)
                self.assertEqual(middle * middle, 4 * high * (c*n*n + e*n + f))
                self.assertEqual(-middle / (2 * high), Fraction(x, z))
                self.assertEqual(m * Fraction(x, z) + n, Fraction(y, z))
                checked += 1
        self.assertGreater(checked, 300)

    def test_sides_that_touch_endlessly_far(self):
        for numbers, first, second in [(FIVE, (1, 0), (1, 0)), (FREE, (1, 0), (0, 1)),
                                       ([0, 1, -1, 1, 0, 1], (1, 0), (1, 0))]:
            self.assertEqual(self.check(numbers, first, second)[2], 0)

    def test_great_numbers(self):
        for k in (10 ** 6, 10 ** 29):
            for first, second in [((1, 1), (1, 1)), ((1, 1), (k, 1)), ((k, 1), (2 * k - 1, k))]:
                self.check(great_relation(k), first, second)

    def test_other_multiples(self):
        for factor in (-1, 9, -10 ** 7):
            relation = Relation([factor * x for x in SQUARE])
            self.assertEqual(touching(relation, (1, 1), (2, 1)), [2, 4, 1])

    def test_a_new_list_each_time(self):
        relation = Relation(SQUARE)
        told = touching(relation, (1, 1), (2, 1))
        told.clear()
        self.assertEqual(touching(relation, (1, 1), (2, 1)), [2, 4, 1])
        self.assertEqual(relation.numbers, SQUARE)

    def check_error(self, first, second, kind, value):
        relation = Relation(SQUARE)
        with self.assertRaises(kind) as caught:
            touching(relation, first, second)
        self.assertIs(type(caught.exception), kind)
        self.assertEqual(caught.exception.value, value)
        self.assertEqual(relation.numbers, SQUARE)

    def test_wrong_points(self):
        for wrong in WRONG + [(2, 2)]:
            for other in [(1, 1), (2, 1), (1, 0)]:
                self.check_error(wrong, other, InvalidPoint, wrong)
                self.check_error(other, wrong, InvalidPoint, wrong)
        for first, second in product(WRONG, repeat=2):
            self.check_error(first, second, InvalidPoint, first)

    def test_no_pairs(self):
        for first, second in [((1, 1), (1, 1)), ((1, 0), (1, 0)), ((1, 0), (0, 1)), ((2, 1), (2, 1)),
                              ((1, 1), (1, 3)), ((0, 1), (0, 1))]:
            self.check_error(first, second, NotPair, (first, second))

    def test_by_name(self):
        told = touching(second=(2, 1), first=(1, 1), relation=Relation(SQUARE))
        self.assertEqual(told, [2, 4, 1])


class SmallRelationsTest(unittest.TestCase):
    def test_against_the_sums(self):
        told = 0
        for numbers in product([0, 1], [-1, 0, 2], [-1, 0, 1], [-2, 0, 1], [-1, 1], [-1, 0, 1]):
            try:
                relation = Relation(list(numbers))
            except Bent:
                continue
            curve = touched(relation)
            for first, second in product(POINTS[1:14], repeat=2):
                x, y = Fraction(*first), Fraction(*second)
                self.assertEqual(apart(curve, x, y) == 0, told_sum(numbers, first, second) == 0)
                told += 1
        self.assertGreater(told, 20000)
