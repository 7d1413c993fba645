"""Relations whose steps can be exchanged, and where steps of two relations meet."""

import unittest
from fractions import Fraction
from itertools import product

from closechains.chains import member
from closechains.errors import Bent, InvalidPoint
from closechains.exchange import are_exchanged, meetings
from closechains.points import is_point
from closechains.relations import Relation, partners, quartic
from closechains.steps import step_numbers
from tests.helper import (ENDING_NEVER, FIVE, FREE, MOVES, SQUARE, great_relation, is_square,
                          known_closing, moved, relation_beside, told_sum)

GREAT = [99999989, -99999971, 99999941, 10 ** 8, -99999877, 3]
UNLIKE = [SQUARE, FREE, FIVE, [0, 2, 0, -7, 0, 2], [1, 0, 0, -4, -16, 64], [3, -2, 5, 7, -1, 4],
          [1, 1, 0, 1, 0, 1], [0, 1, 0, 0, 1, 1], GREAT]
POINTS = [(1, 0)] + [(top, bottom) for bottom in range(1, 4) for top in range(-5, 6)
                     if is_point((top, bottom))]
WRONG = [(2, 4), (0, 0), (-1, 0), (3, -2), (0, 2)]


def factor(one, other):
    """The fraction by which one list is the other, or None."""
    told = {Fraction(x, y) for x, y in zip(one, other) if y != 0}
    if len(told) != 1 or any((x == 0) != (y == 0) for x, y in zip(one, other)):
        return None
    return told.pop()


def relations_beside(numbers):
    """Relations whose D are that of the told one times fractions."""
    found = []
    for k in (-7, -3, -2, -1, 1, 2, 3, 5, 11):
        try:
            found.append(Relation(relation_beside(numbers, k)))
        except Bent:
            pass
    return found


class AreExchangedTest(unittest.TestCase):
    def check(self, one, other, wanted):
        self.assertIs(are_exchanged(one, other), wanted)
        self.assertIs(are_exchanged(other, one), wanted)

    def test_a_relation_and_itself(self):
        for numbers in UNLIKE:
            relation = Relation(numbers)
            self.check(relation, relation, True)
            for times in (-1, 3, -10 ** 20):
                self.check(relation, Relation([times * x for x in numbers]), True)

    def test_members_some_steps_apart(self):
        unlike = 0
        for numbers in [row[1] for row in known_closing()] + UNLIKE:
            relation = Relation(numbers)
            for number in range(1, 13):
                try:
                    other = Relation(step_numbers(relation, number))
                except Bent:
                    continue
                self.check(relation, other, True)
                unlike += other != relation
        self.assertGreater(unlike, 150)

    def test_other_fractions(self):
        told = []
        for numbers in UNLIKE:
            relation = Relation(numbers)
            family = relations_beside(numbers)
            self.assertGreater(len(family), 6)
            self.assertNotIn(relation, family)
            for one, other in product([relation] + family, repeat=2):
                told.append(factor(quartic(one), quartic(other)))
                self.check(one, other, True)
        self.assertNotIn(None, told)
        broken = [x for x in told if x.denominator > 1 and x.numerator not in (1, -1)]
        for kind in (told, broken):
            self.assertTrue(any(x > 0 and not is_square(x) for x in kind))
            self.assertTrue(any(x < 0 and not is_square(-x) for x in kind))

    def test_known_ones(self):
        # Their D are -4*x**4 + 17*x*x - 4 times a fraction, or are not.
        for numbers, wanted in [
                (SQUARE, 1), ([1, 0, 1, 5, 0, 1], 1), ([1, 0, -4, 0, 0, 1], -4), ([2, 0, -2, 3, 0, 2], None),
                ([3, 0, -3, 6, 0, 3], None), ([4, 0, -1, 0, 0, 4], -4), ([0, 1, 0, -1, 1, 0], None),
                ([1, 0, 1, -6, 0, 1], None), ([1, 0, 1, 1, 0, -5], None), ([-5, 0, 1, 1, 0, 1], None)]:
            square, other = Relation(SQUARE), Relation(numbers)
            self.assertEqual(factor(quartic(other), [-4, 0, 17, 0, -4]), wanted)
            self.check(square, other, wanted is not None)

    def test_unlike_relations(self):
        for one, other in product(range(len(UNLIKE)), repeat=2):
            self.check(Relation(UNLIKE[one]), Relation(UNLIKE[other]), one == other)

    def test_as_the_five_numbers_say(self):
        found = {True: 0, False: 0}
        relations = []
        for numbers in product([0, 1], [-1, 0, 1], [-1, 1], [-5, -2, 2, 5], [-1, 0], [-1, 1]):
            try:
                relations.append(Relation(list(numbers)))
            except Bent:
                pass
        for one, other in product(relations, repeat=2):
            wanted = factor(quartic(one), quartic(other)) is not None
            self.assertIs(are_exchanged(one, other), wanted)
            found[wanted] += one != other
        self.assertGreater(found[True], 10)
        self.assertGreater(found[False], 1000)

    def test_one_of_five_numbers_is_another_one(self):
        unlike = []
        square = quartic(Relation(SQUARE))
        for numbers in [[1, 0, 1, -6, 0, 1], [1, 0, 1, 1, 0, -5], [-5, 0, 1, 1, 0, 1],
                        [7, 0, 1, 7, 0, 1], [1, 0, 1, -7, 0, 7]]:
            other = Relation(numbers)
            unlike.append([k for k in range(5) if quartic(other)[k] != square[k]])
            self.check(Relation(SQUARE), other, False)
        self.assertEqual(unlike, [[2], [4], [0], [0], [4]])

    def test_moved_relations(self):
        for move in MOVES:
            for numbers in (SQUARE, FREE, GREAT):
                one = Relation(moved(numbers, move))
                other = Relation(moved(relation_beside(numbers, 3), move))
                self.check(one, other, True)
                self.check(one, Relation(numbers), one == Relation(numbers))

    def test_great_numbers(self):
        for numbers in (GREAT, great_relation(10 ** 8 - 5), [x * 10 ** 22 + 1 for x in GREAT]):
            relation = Relation(numbers)
            for number in (2, 5, 12):
                self.check(relation, Relation(step_numbers(relation, number)), True)
            for at in range(6):
                changed = Relation([x + (k == at) for k, x in enumerate(numbers)])
                self.check(relation, changed, False)

    def test_either_sequence_comes_to_the_same_points(self):
        met = 0
        for numbers, first, second in ENDING_NEVER:
            relation = Relation(numbers)
            for number in (2, 3):
                other = Relation(step_numbers(relation, number))
                for index in range(-2, 3):
                    point = member(relation, first, second, index)
                    for one, another in product(partners(relation, point), partners(other, point)):
                        self.assertTrue(meetings(other, relation, one, another))
                        met += 1
        self.assertGreater(met, 100)

    def test_by_name_and_unchanged(self):
        one, other = Relation(SQUARE), Relation(FREE)
        self.assertIs(are_exchanged(other=other, relation=one), False)
        self.assertIs(are_exchanged(relation=one, other=one), True)
        self.assertEqual([one.numbers, other.numbers], [SQUARE, FREE])


class MeetingsTest(unittest.TestCase):
    def test_members_of_chains(self):
        for numbers, first, second in [row[1:] for row in known_closing()] + ENDING_NEVER:
            relation = Relation(numbers)
            told = {k: member(relation, first, second, k) for k in range(-8, 10)}
            for number in range(2, 6):
                try:
                    other = Relation(step_numbers(relation, number))
                except Bent:
                    continue
                for at in (-2, 0, 3):
                    here, there = told[at + 1], told[at + number]
                    self.assertIn(told[at + number + 1], meetings(other, relation, here, there))
                    self.assertIn(told[at], meetings(relation, other, here, there))

    def test_as_the_sums_say(self):
        sizes = {}
        for one, other in product(UNLIKE[:7], repeat=2):
            for first, second in product(POINTS[:12], repeat=2):
                told = meetings(Relation(one), Relation(other), first, second)
                wanted = [point for point in partners(Relation(one), first)
                          if told_sum(other, second, point) == 0]
                self.assertEqual(told, wanted)
                sizes[len(told)] = sizes.get(len(told), 0) + 1
        self.assertEqual(sorted(sizes), [0, 1, 2])

    def test_known_ones(self):
        square, free = Relation(SQUARE), Relation(FREE)
        last = Relation([1, 1, 0, 1, 0, 1])
        for one, other, first, second, wanted in [
                (square, square, (1, 1), (1, 1), [(1, 2), (2, 1)]),
                (square, free, (1, 1), (1, 1), []),
                (square, square, (2, 1), (1, 2), [(1, 1)]),
                (square, square, (0, 1), (1, 1), []),  # no partners
                (square, square, (1, 1), (0, 1), []),
                (free, free, (1, 0), (1, 0), [(0, 1)]),  # one partner, twice the same
                (free, free, (1, 0), (1, 1), [(0, 1)]),
                (free, last, (0, 1), (0, 1), [(1, 0)]),  # the endless one
                (last, free, (-1, 1), (0, 1), [(1, 0)]),
                (last, last, (1, 0), (1, 0), [(-1, 1), (0, 1)]),
                (Relation(FIVE), free, (1, 0), (0, 1), [(1, 0)]),
                (free, Relation(FIVE), (0, 1), (1, 0), [(1, 0)])]:
            self.assertEqual(meetings(one, other, first, second), wanted)
            self.assertEqual(meetings(other, one, second, first), wanted)

    def test_each_once_for_double_partners(self):
        free = Relation(FREE)
        self.assertEqual(partners(free, (1, 0)), [(0, 1)])
        self.assertEqual(meetings(free, free, (1, 0), (1, 0)), [(0, 1)])

    def test_great_numbers(self):
        for k in (10 ** 6, 10 ** 29):
            great = Relation(great_relation(k))
            self.assertEqual(meetings(great, great, (1, 1), (2 * k - 1, k)), [(k, 1)])
            self.assertEqual(meetings(great, great, (k, 1), (k, 1)), [(1, 1), (2 * k - 1, k)])
            self.assertEqual(meetings(great, great, (k, 1), (k - 1, k)), [])

    def test_a_new_list_each_time(self):
        square = Relation(SQUARE)
        told = meetings(square, square, (1, 1), (1, 1))
        self.assertIs(type(told), list)
        told.clear()
        self.assertEqual(meetings(square, square, (1, 1), (1, 1)), [(1, 2), (2, 1)])
        none = meetings(square, square, (0, 1), (0, 1))
        none.append(5)
        self.assertEqual(meetings(square, square, (0, 1), (0, 1)), [])

    def test_wrong_points(self):
        square, free = Relation(SQUARE), Relation(FREE)
        # A point without partners ahead of a wrong one does not hide it.
        for wrong in WRONG:
            for other in [(1, 1), (0, 1), (1, 0)]:
                for first, second in [(wrong, other), (other, wrong)]:
                    self.check_wrong(square, free, first, second, wrong)
                    self.check_wrong(free, square, first, second, wrong)
        for first, second in product(WRONG, repeat=2):
            self.check_wrong(square, free, first, second, first)
        self.assertEqual([square.numbers, free.numbers], [SQUARE, FREE])

    def check_wrong(self, one, other, first, second, wrong):
        with self.assertRaises(InvalidPoint) as caught:
            meetings(one, other, first, second)
        self.assertIs(caught.exception.value, wrong)

    def test_by_name(self):
        square, free = Relation(SQUARE), Relation(FREE)
        self.assertEqual(meetings(second=(1, 2), first=(2, 1), other=square, relation=square), [(1, 1)])
        self.assertEqual(meetings(second=(0, 1), first=(1, 1), other=free, relation=square), [])
        with self.assertRaises(InvalidPoint) as caught:
            meetings(second=(2, 4), first=(3, 6), other=free, relation=square)
        self.assertEqual(caught.exception.value, (3, 6))
