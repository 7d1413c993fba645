"""The only relation through told pairs, and how many are left where it is not the only one."""

import unittest
from fractions import Fraction
from itertools import combinations, product

from closechains.chains import chain
from closechains.errors import Bent, InvalidPoint, NotOne
from closechains.points import is_point
from closechains.relations import Relation, holds
from closechains.steps import step_numbers
from closechains.through import free_numbers, through
from tests.helper import ENDING_NEVER, FIVE, FREE, SQUARE, known_closing, primitive, told_sum

POINTS = [(1, 0), (0, 1), (1, 1), (-1, 1), (2, 1), (-3, 2), (1, 3), (5, 4)]
WRONG = [(2, 4), (0, 0), (-1, 0), (3, -2), (0, 2)]
UNITS = [[int(k == at) for k in range(6)] for at in range(6)]
# A chain of FREE.
FREE_PAIRS = [((1, 0), (0, 1)), ((0, 1), (1, 1)), ((1, 1), (-1, 1)), ((-1, 1), (2, 1)), ((2, 1), (1, 4))]


def told_rows(pairs):
    """What the six numbers are multiplied by in the sum of promise [5], pair by pair."""
    return [[told_sum(unit, first, second) for unit in UNITS] for first, second in pairs]


def rank(rows):
    """How many rows are left when those that are sums of others are taken away."""
    rows = [[Fraction(x) for x in row] for row in rows]
    found = 0
    for column in range(6):
        chosen = next((row for row in rows if row[column] != 0), None)
        if chosen is not None:
            found += 1
            rows.remove(chosen)
            rows = [[x - row[column] / chosen[column] * y for x, y in zip(row, chosen)] for row in rows]
    return found


def determinant(rows):
    if not rows:
        return 1
    return sum((-1) ** k * x * determinant([row[:k] + row[k + 1:] for row in rows[1:]])
               for k, x in enumerate(rows[0]) if x != 0)


def only_numbers(pairs):
    """The six numbers of five pairs that have one relation, by determinants."""
    rows = told_rows(pairs)
    return primitive([(-1) ** k * determinant([row[:k] + row[k + 1:] for row in rows]) for k in range(6)])


def pairs_of_chain(numbers, first, second, many):
    told = chain(Relation(numbers), first, second, many + 1)
    return list(zip(told, told[1:]))


def many_pairs(seed, many):
    """Pairs of points without any relation in mind."""
    found = []
    while len(found) < many:
        numbers = []
        for _ in range(4):
            seed = seed * 1103515245 % 2 ** 31 + 12345
            numbers.append(seed // 65536 % 19 - 9)
        first, second = (numbers[0], abs(numbers[1])), (numbers[2], abs(numbers[3]))
        if is_point(first) and is_point(second):
            found.append((first, second))
    return found


def great_pairs(many):
    """Pairs of points of seven digits."""
    told = [Fraction(10 ** 6 - k, 10 ** 6 - 1 - k * k) for k in range(2 * many)]
    points = [(x.numerator, x.denominator) for x in told]
    return [(points[k], (-points[2 * many - 1 - k][0], points[2 * many - 1 - k][1])) for k in range(many)]


class FreeNumbersTest(unittest.TestCase):
    def check(self, pairs, wanted):
        kept = list(pairs)
        self.assertEqual(free_numbers(pairs), wanted)
        self.assertEqual(pairs, kept)

    def test_no_pairs(self):
        self.check([], 6)

    def test_known_ones(self):
        for pairs, wanted in [
                ([((1, 1), (1, 1)), ((1, 1), (2, 1)), ((2, 1), (1, 1))], 4),
                ([((1, 0), (1, 0))], 5), ([((0, 1), (0, 1))], 5), ([((1, 0), (0, 1))], 5),
                ([((1, 0), (1, 0)), ((0, 1), (0, 1)), ((1, 0), (0, 1)), ((0, 1), (1, 0))], 3),
                ([((1, 0), (1, 0)), ((1, 0), (0, 1)), ((1, 0), (1, 1))], 3),
                # The endless point has two partners by a relation, or all points.
                ([((1, 0), (1, 0)), ((1, 0), (0, 1)), ((1, 0), (1, 1)), ((1, 0), (2, 1))], 3),
                ([((3, 2), (5, 1)), ((3, 2), (7, 1)), ((3, 2), (-7, 1)), ((2, 5), (3, 2)), ((3, 2), (1, 0))], 3)]:
            self.check(pairs, wanted)

    def test_pairs_told_twice_and_the_other_way_about(self):
        for many in range(1, 6):
            pairs = many_pairs(7, many)
            left = free_numbers(pairs)
            self.check(pairs + pairs[:3], left)
            self.check([pairs[0]] * 8 + pairs, left)
            self.check([(second, first) for first, second in pairs], left)
            self.check(pairs + [(second, first) for first, second in pairs], left)

    def test_one_pair_leaves_five(self):
        for first, second in product(POINTS, repeat=2):
            self.check([(first, second)], 5)

    def test_against_rows(self):
        told = {}
        for seed in range(1, 120):
            for many in (2, 3, 4, 5, 6, 8):
                pairs = many_pairs(seed, many)
                wanted = 6 - rank(told_rows(pairs))
                self.check(pairs, wanted)
                told[wanted] = told.get(wanted, 0) + 1
        for pairs in combinations(list(product([(1, 0), (0, 1), (1, 1)], repeat=2)), 5):
            wanted = 6 - rank(told_rows(pairs))
            self.check(list(pairs), wanted)
            told[wanted] = told.get(wanted, 0) + 1
        self.assertEqual(sorted(told), [0, 1, 2, 3, 4])

    def test_pairs_of_chains(self):
        for numbers, first, second in [row[1:] for row in known_closing()] + ENDING_NEVER:
            for many in range(9):
                pairs = pairs_of_chain(numbers, first, second, many)
                self.check(pairs, 6 - rank(told_rows(pairs)))
                self.assertGreaterEqual(free_numbers(pairs), 1)

    def test_every_order(self):
        pairs = many_pairs(3, 5)
        for at in range(5):
            self.check(pairs[at:] + pairs[:at], 1)
            self.check(pairs[at::-1] + pairs[:at:-1], 1)

    def test_great_numbers(self):
        for many in range(1, 9):
            pairs = great_pairs(many)
            self.check(pairs, 6 - rank(told_rows(pairs)))

    def test_wrong_points(self):
        check_wrong_points(self, free_numbers)

    def test_by_name(self):
        self.assertEqual(free_numbers(pairs=FREE_PAIRS), 1)


class ThroughTest(unittest.TestCase):
    def test_a_chain(self):
        self.assertEqual(through(FREE_PAIRS).numbers, FREE)
        self.assertEqual(through(FREE_PAIRS), Relation(FREE))
        self.assertIs(type(through(FREE_PAIRS)), Relation)

    def test_pairs_of_chains(self):
        found = 0
        for numbers, first, second in [row[1:] for row in known_closing()] + ENDING_NEVER:
            for many in range(5, 9):
                pairs = pairs_of_chain(numbers, first, second, many)
                left = 6 - rank(told_rows(pairs))
                if left == 1:
                    self.assertEqual(through(pairs).numbers, primitive(numbers))
                    found += 1
                else:
                    self.check_error(pairs, NotOne, left)
        self.assertGreater(found, 40)

    def test_members_some_steps_apart(self):
        for numbers, first, second in ENDING_NEVER:
            told = chain(Relation(numbers), first, second, 14)
            for number in (2, 3, 5):
                pairs = list(zip(told, told[number:]))[:8]
                self.assertEqual(through(pairs).numbers, step_numbers(Relation(numbers), number))

    def test_any_five_pairs(self):
        found = 0
        for seed in range(1, 200):
            pairs = many_pairs(seed, 5)
            if rank(told_rows(pairs)) == 5:
                wanted = only_numbers(pairs)
                try:
                    relation = through(pairs)
                except Bent:
                    self.assertRaises(Bent, Relation, wanted)
                    continue
                self.assertEqual(relation.numbers, wanted)
                self.assertTrue(all(holds(relation, *pair) and holds(relation, *pair[::-1]) for pair in pairs))
                found += 1
        self.assertGreater(found, 150)

    def test_more_than_five_pairs(self):
        turned = [(second, first) for first, second in FREE_PAIRS]
        self.assertEqual(through(FREE_PAIRS + turned).numbers, FREE)
        self.assertEqual(through(turned[::-1]).numbers, FREE)
        self.assertEqual(through(turned + FREE_PAIRS[:3]).numbers, FREE)
        self.assertEqual(through([FREE_PAIRS[0]] * 3 + FREE_PAIRS).numbers, FREE)

    def test_the_endless_point_and_0(self):
        pairs = [((1, 0), (1, 0)), ((1, 0), (-1, 1)), ((-1, 1), (0, 1)), ((1, 1), (1, 1)), ((1, 1), (2, 1))]
        self.assertEqual(through(pairs).numbers, only_numbers(pairs))
        self.assertTrue(all(holds(through(pairs), *pair) for pair in pairs))
        five = pairs_of_chain(FIVE, (1, 0), (1, 0), 8)
        self.check_error(five, NotOne, 6 - rank(told_rows(five)))

    def test_great_numbers(self):
        pairs = great_pairs(5)
        self.assertEqual(through(pairs).numbers, only_numbers(pairs))

    def check_error(self, pairs, kind, value):
        kept = list(pairs)
        with self.assertRaises(kind) as caught:
            through(pairs)
        self.assertIs(type(caught.exception), kind)
        self.assertEqual(caught.exception.value, value)
        self.assertEqual(pairs, kept)

    def test_too_few_and_too_many(self):
        self.check_error([], NotOne, 6)
        for many in range(5):
            self.check_error(FREE_PAIRS[:many], NotOne, 6 - many)
        self.check_error([FREE_PAIRS[0]] * 8, NotOne, 5)
        self.check_error(FREE_PAIRS + [((1, 1), (1, 1))], NotOne, 0)
        self.check_error([((1, 1), (1, 1)), ((1, 1), (2, 1)), ((2, 1), (1, 1))], NotOne, 4)
        square = pairs_of_chain(SQUARE, (1, 1), (2, 1), 8)
        self.check_error(square, NotOne, 4)
        self.check_error([((1, 0), point) for point in POINTS], NotOne, 3)

    def test_bent(self):
        equal = [(point, point) for point in POINTS]
        self.check_error(equal[:5], Bent, 0)
        self.check_error(equal, Bent, 0)
        # Those of x and 1 / x, and of x and -x: (x + y) * (x * y - 1) is 0.
        two_lines = [((k, 1), (1, k)) for k in (2, 3, 4)] + [((5, 1), (-5, 1)), ((-7, 2), (7, 2))]
        self.check_error(two_lines, Bent, 0)
        self.check_error(two_lines + [((0, 1), (0, 1)), ((1, 1), (1, 1)), ((1, 0), (0, 1))], Bent, 0)
        self.check_error(equal[:4], NotOne, 2)
        for case in (equal[:5], two_lines):
            self.assertEqual(free_numbers(case), 1)

    def test_wrong_points(self):
        check_wrong_points(self, through)

    def test_the_list_stays(self):
        pairs = list(FREE_PAIRS)
        through(pairs)
        self.assertEqual(pairs, FREE_PAIRS)
        told = through(pairs)
        pairs.clear()
        self.assertEqual(told.numbers, FREE)

    def test_by_name(self):
        self.assertEqual(through(pairs=FREE_PAIRS).numbers, FREE)


def check_wrong_points(test, function):
    """The first wrong point is told, pair by pair, ahead of how many relations are left."""
    def check(pairs, wrong):
        kept = list(pairs)
        with test.assertRaises(InvalidPoint) as caught:
            function(pairs)
        test.assertIs(caught.exception.value, wrong)
        test.assertEqual(pairs, kept)

    for wrong in WRONG:
        for at in range(5):
            for pair in [(wrong, (1, 1)), ((1, 1), wrong), (wrong, wrong)]:
                check(FREE_PAIRS[:at] + [pair] + FREE_PAIRS[at:], wrong)
                check(FREE_PAIRS[:at] + [pair], wrong)
    for one, other in product(WRONG, repeat=2):
        check([(one, other)], one)
        check([((1, 1), one), (other, (1, 1))], one)
        check([FREE_PAIRS[0], ((1, 1), one), (other, one)], one)
    check([(point, point) for point in POINTS] + [((1, 1), WRONG[0])], WRONG[0])  # bent
