"""Promise [5]: relations, which points have them, partners, D and what is bent."""

import unittest
from fractions import Fraction
from itertools import product

from closechains.errors import Bent, InvalidNumber, InvalidPoint
from closechains.points import is_point, sorted_points
from closechains.relations import Relation, holds, partners, quartic
from tests.helper import FIVE, FREE, SQUARE, great_relation, told_sum

UNLIKE = [SQUARE, FREE, FIVE, [0, 2, 0, -7, 0, 2], [1, 0, 0, -4, -16, 64], [3, -2, 5, 7, -1, 4],
          [1, 1, 0, 1, 0, 1], [0, 1, 0, 0, 1, 1], [2, 0, -3, 0, 0, 5], [0, 1, -1, 1, 1, 0]]
POINTS = [(1, 0)] + [(top, bottom) for bottom in range(1, 7) for top in range(-12, 13)
                     if is_point((top, bottom))]
WRONG = [(2, 4), (0, 0), (-1, 0), (3, -2), (0, 2)]


def times(one, other):
    """The product of two polynomials, the greatest power first."""
    out = [0] * (len(one) + len(other) - 1)
    for i, x in enumerate(one):
        for j, y in enumerate(other):
            out[i + j] += x * y
    return out


def told_quartic(numbers):
    a, b, c, d, e, f = numbers
    middle = times([b, d, e], [b, d, e])
    ends = times([a, b, c], [c, e, f])
    return [x - 4 * y for x, y in zip(middle, ends)]


def trimmed(polynomial):
    while polynomial and polynomial[0] == 0:
        polynomial = polynomial[1:]
    return polynomial


def rest(one, other):
    """The remainder of a division of polynomials that begin with no 0."""
    one = [Fraction(x) for x in one]
    while len(one) >= len(other):
        factor = one[0] / other[0]
        for k, x in enumerate(other):
            one[k] -= factor * x
        one = one[1:]
    return trimmed(one)


def has_four_unlike_roots(told):
    if told[0] == 0 and told[1] == 0:
        return False
    one = trimmed(told)
    other = trimmed([x * (len(one) - 1 - k) for k, x in enumerate(one[:-1])])
    while other:
        one, other = other, rest(one, other)
    return len(one) == 1


class RelationTest(unittest.TestCase):
    def test_other_lengths(self):
        for length in [0, 1, 2, 5, 7, 8, 12]:
            with self.assertRaises(InvalidNumber) as caught:
                Relation(SQUARE[:length] if length < 6 else SQUARE + [0] * (length - 6))
            self.assertEqual(caught.exception.value, length)

    def test_the_length_is_checked_ahead_of_bent(self):
        for length in [5, 7]:
            with self.assertRaises(InvalidNumber) as caught:
                Relation([0] * length)
            self.assertEqual(caught.exception.value, length)

    def test_bent(self):
        for numbers in [[0] * 6, [0, 0, 0, 0, 0, 1], [1, 0, 0, 0, 0, 0], [0, 0, 1, -2, 0, 0],
                        [1, 0, 1, 0, 0, 1], [1, 0, 0, 0, 0, 1], [0, 0, 0, 1, 0, 0],
                        [0, 0, 1, 0, 0, -1], [3, 0, 0, -6, 0, 0], [10 ** 8, 0, 0, 0, 0, -10 ** 8]]:
            with self.assertRaises(Bent) as caught:
                Relation(numbers)
            self.assertEqual(caught.exception.value, 0)
            self.assertIs(type(caught.exception.value), int)

    def test_bent_is_what_has_no_four_unlike_roots(self):
        bent = 0
        for numbers in product([-1, 0, 1], [-1, 0, 2], [-1, 0, 1], [-5, -2, 0, 2], [-1, 0, 1], [0, 1, 4]):
            if has_four_unlike_roots(told_quartic(numbers)):
                Relation(list(numbers))
            else:
                bent += 1
                with self.assertRaises(Bent):
                    Relation(list(numbers))
        self.assertGreater(bent, 100)

    def test_numbers_without_a_common_divisor(self):
        for passed, wanted in [
                ([0, -2, -2, 18, -4, -2], FIVE), (SQUARE, SQUARE), ([-1, 0, -1, 5, 0, -1], SQUARE),
                ([7, 0, 7, -35, 0, 7], SQUARE), ([-9, 0, 0, -18, 9, -9], FREE),
                ([0, -3, 6, 0, 3, 9], [0, 1, -2, 0, -1, -3]), ([2, 0, -3, 0, 0, 5], [2, 0, -3, 0, 0, 5]),
                ([10 ** 8, 0, 10 ** 8, -5 * 10 ** 8, 0, 10 ** 8], SQUARE),
                ([x * 10 ** 30 for x in FIVE], FIVE)]:
            self.assertEqual(Relation(passed).numbers, wanted)

    def test_numbers_is_a_new_list_each_time(self):
        relation = Relation(SQUARE)
        first = relation.numbers
        self.assertIs(type(first), list)
        self.assertIsNot(first, relation.numbers)
        first[0] = 99
        first.clear()
        self.assertEqual(relation.numbers, SQUARE)

    def test_numbers_cannot_be_set(self):
        relation = Relation(SQUARE)
        with self.assertRaises(AttributeError):
            relation.numbers = FREE
        self.assertEqual(relation.numbers, SQUARE)

    def test_the_passed_list_stays_and_may_be_changed(self):
        passed = [0, -2, -2, 18, -4, -2]
        relation = Relation(passed)
        self.assertEqual(passed, [0, -2, -2, 18, -4, -2])
        passed[1] = 5
        passed.append(3)
        self.assertEqual(relation.numbers, FIVE)
        self.assertEqual(quartic(relation), told_quartic(FIVE))

    def test_equal_by_multiples(self):
        for numbers in UNLIKE:
            for factor in [1, -1, 2, -7, 10 ** 20]:
                other = Relation([factor * x for x in numbers])
                self.assertTrue(Relation(numbers) == other)
                self.assertFalse(Relation(numbers) != other)

    def test_unlike_relations(self):
        for one, other in product(range(len(UNLIKE)), repeat=2):
            self.assertEqual(Relation(UNLIKE[one]) == Relation(UNLIKE[other]), one == other)
            self.assertEqual(Relation(UNLIKE[one]) != Relation(UNLIKE[other]), one != other)
        for at in range(6):
            changed = [x + 10 * (k == at) for k, x in enumerate(FIVE)]
            self.assertFalse(Relation(FIVE) == Relation(changed))

    def test_equal_to_nothing_else(self):
        class Same:
            numbers = SQUARE
            _numbers = tuple(SQUARE)

            def __eq__(self, other):
                return True

        relation = Relation(SQUARE)
        for other in [SQUARE, tuple(SQUARE), "1 0 1 -5 0 1", None, 0, True, Relation, Same(), object()]:
            self.assertIs(relation == other, False)
            self.assertIs(relation != other, True)

    def test_by_name(self):
        self.assertEqual(Relation(numbers=SQUARE), Relation(SQUARE))


class QuarticTest(unittest.TestCase):
    def test_known_ones(self):
        for numbers, wanted in [
                (SQUARE, [-4, 0, 17, 0, -4]), (FREE, [0, 4, 0, -4, 1]), (FIVE, [1, -22, 73, -48, 0]),
                ([0, 2, 0, -7, 0, 2], [4, -28, 49, -16, 0])]:
            self.assertEqual(quartic(Relation(numbers)), wanted)

    def test_of_the_told_numbers(self):
        self.assertEqual(quartic(Relation([-7, 0, -7, 35, 0, -7])), [-4, 0, 17, 0, -4])
        self.assertEqual(quartic(Relation([0, -2, -2, 18, -4, -2])), quartic(Relation(FIVE)))

    def test_as_the_product_of_polynomials(self):
        great = [10 ** 8, -10 ** 8 + 1, 3, 10 ** 8 - 9, -5, 99999999]
        for numbers in UNLIKE + [great, [x * 10 ** 22 + 1 for x in great]]:
            relation = Relation(numbers)
            self.assertEqual(quartic(relation), told_quartic(relation.numbers))

    def test_a_new_list_each_time(self):
        relation = Relation(SQUARE)
        told = quartic(relation)
        self.assertIs(type(told), list)
        told.clear()
        self.assertEqual(quartic(relation), [-4, 0, 17, 0, -4])
        self.assertEqual(relation.numbers, SQUARE)

    def test_by_name(self):
        self.assertEqual(quartic(relation=Relation(FREE)), [0, 4, 0, -4, 1])


class HoldsTest(unittest.TestCase):
    def test_as_the_sum_says(self):
        found = 0
        for numbers in UNLIKE:
            relation = Relation(numbers)
            for first, second in product(POINTS, repeat=2):
                wanted = told_sum(numbers, first, second) == 0
                self.assertIs(holds(relation, first, second), wanted)
                found += wanted
        self.assertGreater(found, 50)

    def test_known_pairs(self):
        for numbers, first, second, wanted in [
                (SQUARE, (1, 1), (2, 1), True), (SQUARE, (2, 1), (1, 1), True),
                (SQUARE, (1, 1), (1, 1), False), (FIVE, (1, 1), (1, 1), True),
                (FREE, (1, 0), (0, 1), True), (FREE, (0, 1), (1, 0), True),
                (FREE, (1, 0), (1, 0), False), (FIVE, (1, 0), (1, 0), True),
                (SQUARE, (0, 1), (0, 1), False), ([0, 1, -1, 1, 1, 0], (0, 1), (0, 1), True)]:
            self.assertIs(holds(Relation(numbers), first, second), wanted)

    def test_great_numbers(self):
        for k in [10 ** 6, 10 ** 29]:
            relation = Relation(great_relation(k))
            for first, second, wanted in [
                    ((1, 1), (k, 1), True), ((k, 1), (1, 1), True), ((k, 1), (2 * k - 1, k), True),
                    ((2 * k - 1, k), (k, 1), True), ((k, 1), (2 * k + 1, k), False),
                    ((k, 1), (k, 1), False), ((1, 1), (k + 1, 1), False)]:
                self.assertIs(holds(relation, first, second), wanted)

    def test_the_first_wrong_point_is_told(self):
        relation = Relation(SQUARE)
        for wrong in WRONG:
            for other in [(1, 1), (1, 0)]:
                for pair in [(wrong, other), (other, wrong)]:
                    with self.assertRaises(InvalidPoint) as caught:
                        holds(relation, *pair)
                    self.assertIs(caught.exception.value, wrong)
        for first, second in product(WRONG, repeat=2):
            with self.assertRaises(InvalidPoint) as caught:
                holds(relation, first, second)
            self.assertIs(caught.exception.value, first)
        self.assertEqual(relation.numbers, SQUARE)

    def test_by_name(self):
        self.assertIs(holds(second=(2, 1), first=(1, 1), relation=Relation(SQUARE)), True)
        with self.assertRaises(InvalidPoint) as caught:
            holds(second=(2, 4), first=(3, 6), relation=Relation(SQUARE))
        self.assertEqual(caught.exception.value, (3, 6))


class PartnersTest(unittest.TestCase):
    def test_known_ones(self):
        for numbers, point, wanted in [
                (SQUARE, (1, 1), [(1, 2), (2, 1)]),       # two
                (SQUARE, (2, 1), [(1, 1)]),               # both the same
                (SQUARE, (0, 1), []),                     # none: the square below 0
                (SQUARE, (3, 2), []),                     # none: no square of an integer
                (SQUARE, (1, 0), []),                     # none of the endless point
                (FREE, (1, 0), [(0, 1)]),                 # both the same, of the endless point
                (FREE, (0, 1), [(1, 1), (1, 0)]),         # the endless one and another one
                (FREE, (1, 1), [(-1, 1), (0, 1)]),        # 0 among them
                (FREE, (2, 1), [(-1, 1), (1, 4)]),
                (FIVE, (1, 0), [(-1, 1), (1, 0)]),        # the endless one of itself
                (FIVE, (1, 1), [(1, 1), (2, 1)]),         # the point itself
                ([0, 1, 0, 0, 1, 1], (0, 1), [(-1, 1), (1, 0)]),
                ([1, 1, 0, 1, 0, 1], (0, 1), [(1, 0)]),   # the endless one twice
                ([1, 1, 0, 1, 0, 1], (-1, 1), [(1, 0)]),
                ([1, 1, 0, 1, 0, 1], (1, 0), [(-1, 1), (0, 1)])]:
            self.assertEqual(partners(Relation(numbers), point), wanted, (numbers, point))

    def test_as_holds_says(self):
        for numbers in UNLIKE:
            relation = Relation(numbers)
            for point in POINTS:
                told = partners(relation, point)
                self.assertLessEqual(len(told), 2)
                self.assertEqual(told, sorted_points(told))
                self.assertEqual(len(set(told)), len(told))
                for partner in told:
                    self.assertTrue(is_point(partner))
                    self.assertEqual(told_sum(numbers, point, partner), 0)
                    self.assertIn(point, partners(relation, partner))
                for other in POINTS:
                    self.assertEqual(other in told, told_sum(numbers, point, other) == 0)

    def test_great_numbers(self):
        for k in [10 ** 6, 10 ** 29]:
            relation = Relation(great_relation(k))
            self.assertEqual(partners(relation, (1, 1)), [(1, 1), (k, 1)])
            self.assertEqual(partners(relation, (k, 1)), [(1, 1), (2 * k - 1, k)])
            self.assertEqual(partners(relation, (2 * k - 1, k)),
                             [(k * k + k - 1, k * (2 * k - 1)), (k, 1)])
            self.assertEqual(partners(relation, (k - 1, k)), [])

    def test_wrong_points(self):
        relation = Relation(SQUARE)
        for wrong in WRONG:
            with self.assertRaises(InvalidPoint) as caught:
                partners(relation, wrong)
            self.assertIs(caught.exception.value, wrong)
        self.assertEqual(relation.numbers, SQUARE)

    def test_a_new_list_each_time(self):
        relation = Relation(SQUARE)
        told = partners(relation, (1, 1))
        self.assertIs(type(told), list)
        told.clear()
        self.assertEqual(partners(relation, (1, 1)), [(1, 2), (2, 1)])

    def test_by_name(self):
        self.assertEqual(partners(point=(1, 1), relation=Relation(SQUARE)), [(1, 2), (2, 1)])
