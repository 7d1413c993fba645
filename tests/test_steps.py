"""Promise [7]: the six numbers of members a number of steps apart, and doubled members."""

import unittest
from math import gcd

from closechains.chains import member
from closechains.errors import InvalidNumber
from closechains.relations import Relation
from closechains.steps import is_doubled, step_numbers
from tests.helper import (ENDING_NEVER, FREE, GREAT_MOVES, MOVES, PAIRLESS, SQUARE, known_closing,
                          moved, told_sum, walkers)

EQUAL = [0, 0, 1, -2, 0, 0]
GREAT = [[99999989, -99999971, 99999941, 10 ** 8, -99999877, 3],
         [10 ** 8, 10 ** 8 - 1, -10 ** 8, 3, 10 ** 8, 7], [10 ** 8, 1, 7, -3, -1, 10 ** 8 - 1]]
NEVER = ([row[0] for row in ENDING_NEVER] + [row[0] for row in PAIRLESS if row[1] is None] + GREAT
         + [[1, 1, 0, 0, -1, 2], [3, -2, 5, 7, -1, 4]])
CLOSED = [row[:2] for row in known_closing()] + [(row[1], row[0]) for row in PAIRLESS if row[1]]


class StepNumbersTest(unittest.TestCase):
    def check_told(self, told):
        self.assertIs(type(told), list)
        self.assertEqual(len(told), 6)
        self.assertEqual(gcd(*told), 1)
        self.assertGreater(next(x for x in told if x != 0), 0)

    def test_known_ones(self):
        for numbers, number, wanted in [
                (SQUARE, 2, [1, 0, 0, -2, 0, 1]), (SQUARE, 3, SQUARE), (SQUARE, 4, EQUAL),
                (SQUARE, 5, SQUARE), (SQUARE, 6, [1, 0, 0, -2, 0, 1]), (SQUARE, 12, EQUAL)]:
            self.assertEqual(step_numbers(Relation(numbers), number), wanted)

    def test_no_step_and_one(self):
        for numbers in NEVER + [row[1] for row in CLOSED]:
            relation = Relation(numbers)
            self.assertEqual(step_numbers(relation, 0), EQUAL)
            self.assertEqual(step_numbers(relation, 1), relation.numbers)

    def test_against_chains_of_other_numbers(self):
        # Five starts are enough: other numbers would agree at four at most.
        for numbers in NEVER + [row[1] for row in CLOSED]:
            walks = walkers(numbers, 5, 12)
            for number in range(13):
                told = step_numbers(Relation(numbers), number)
                self.check_told(told)
                for walker in walks:
                    self.assertTrue(walker.fits(told, number), (numbers, number))

    def test_against_chains_of_fractions(self):
        for numbers, first, second in [row[1:] for row in known_closing()] + ENDING_NEVER:
            relation = Relation(numbers)
            members = [member(relation, first, second, k) for k in range(-6, 13)]
            for number in range(13):
                told = step_numbers(relation, number)
                for one, other in zip(members, members[number:]):
                    self.assertTrue(told_sum(told, one, other) == told_sum(told, other, one) == 0)

    def test_beyond_the_steps_that_close(self):
        for steps, numbers in CLOSED:
            relation = Relation(numbers)
            told = [step_numbers(relation, number) for number in range(13)]
            for number in range(13):
                self.assertEqual(told[number] == EQUAL, number % steps == 0)
                self.assertEqual(told[number], told[number % steps])
                if number % steps:
                    self.assertEqual(told[number], told[steps - number % steps])
            unlike = {tuple(one) for one in told}
            self.assertEqual(len(unlike), steps // 2 + 1)

    def test_never_the_same_again(self):
        for numbers in NEVER:
            told = [step_numbers(Relation(numbers), number) for number in range(13)]
            self.assertEqual(len({tuple(one) for one in told}), 13)

    def test_steps_of_steps(self):
        for numbers in NEVER[:4]:
            relation = Relation(numbers)
            for one in (2, 3, 4):
                steps = Relation(step_numbers(relation, one))
                for other in range(12 // one + 1):
                    self.assertEqual(step_numbers(steps, other), step_numbers(relation, one * other))

    def test_moved_relations(self):
        for numbers in NEVER[:4] + [row[1] for row in CLOSED]:
            relation = Relation(numbers)
            for move in MOVES + GREAT_MOVES:
                other = Relation(moved(numbers, move))
                for number in (0, 2, 3, 7, 12):
                    wanted = moved(step_numbers(relation, number), move)
                    self.assertEqual(step_numbers(other, number), wanted)

    def test_wrong_numbers(self):
        for numbers in (SQUARE, FREE, PAIRLESS[0][0]):
            relation = Relation(numbers)
            for number in (-1, -2, -12, -10 ** 30, 13, 14, 24, 10 ** 30):
                with self.assertRaises(InvalidNumber) as caught:
                    step_numbers(relation, number)
                self.assertEqual(caught.exception.value, number)
            self.assertEqual(relation.numbers, numbers)

    def test_a_new_list_each_time(self):
        relation = Relation(SQUARE)
        for number in (0, 1, 2, 4):
            told = step_numbers(relation, number)
            kept = list(told)
            told.clear()
            self.assertEqual(step_numbers(relation, number), kept)
        self.assertEqual(relation.numbers, SQUARE)

    def test_by_name(self):
        relation = Relation(SQUARE)
        self.assertEqual(step_numbers(number=2, relation=relation), [1, 0, 0, -2, 0, 1])
        with self.assertRaises(InvalidNumber) as caught:
            step_numbers(number=13, relation=relation)
        self.assertEqual(caught.exception.value, 13)


class IsDoubledTest(unittest.TestCase):
    def test_closed_ones(self):
        for steps, numbers in CLOSED:
            relation = Relation(numbers)
            for number in range(30):
                self.assertIs(is_doubled(relation, number), 2 * number % steps == 0)

    def test_against_chains_of_fractions(self):
        for steps, numbers, first, second in known_closing():
            relation = Relation(numbers)
            told = [member(relation, first, second, k) for k in range(steps)]
            for number in range(17):
                wanted = all(told[(k + number) % steps] == told[(k - number) % steps] for k in range(steps))
                self.assertIs(is_doubled(relation, number), wanted)
        for numbers, first, second in ENDING_NEVER:
            relation = Relation(numbers)
            told = {k: member(relation, first, second, k) for k in range(-17, 19)}
            for number in range(17):
                wanted = all(told[k + number] == told[k - number] for k in (0, 1))
                self.assertIs(is_doubled(relation, number), wanted)

    def test_against_chains_of_other_numbers(self):
        for numbers in NEVER + [row[1] for row in CLOSED]:
            walker, = walkers(numbers, 1, 12)
            for number in range(13):
                self.assertIs(is_doubled(Relation(numbers), number), walker.member(number)[1] == 0)

    def test_one_of_a_chain_only(self):
        # Members 1 and -1 of this chain are the same, but not those of the next one.
        self.assertEqual(member(Relation(FREE), (1, 0), (0, 1), -1), (0, 1))
        self.assertIs(is_doubled(Relation(FREE), 1), False)
        self.assertEqual(member(Relation(SQUARE), (2, 1), (1, 1), -1), (1, 1))
        self.assertIs(is_doubled(Relation(SQUARE), 1), False)

    def test_ones_that_never_close(self):
        for numbers in NEVER:
            relation = Relation(numbers)
            self.assertIs(is_doubled(relation, 0), True)
            for number in [1, 2, 3, 5, 6, 12, 60, 2520, 10 ** 30]:
                self.assertIs(is_doubled(relation, number), False)

    def test_great_numbers_of_steps(self):
        for steps, numbers in CLOSED:
            relation = Relation(numbers)
            for number in (10 ** 30, 10 ** 30 - 1, 1260 * 10 ** 26, 7 ** 35, 2 ** 99, 3 ** 60, 9 * 5 ** 40):
                self.assertIs(is_doubled(relation, number), 2 * number % steps == 0)

    def test_wrong_numbers(self):
        for numbers in (SQUARE, FREE, PAIRLESS[0][0]):
            relation = Relation(numbers)
            for number in (-1, -2, -4, -10 ** 30):
                with self.assertRaises(InvalidNumber) as caught:
                    is_doubled(relation, number)
                self.assertEqual(caught.exception.value, number)
            self.assertEqual(relation.numbers, numbers)

    def test_by_name(self):
        self.assertIs(is_doubled(number=2, relation=Relation(SQUARE)), True)
        self.assertIs(is_doubled(number=1, relation=Relation(SQUARE)), False)
