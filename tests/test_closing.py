"""Promise [7]: after how many steps the chains of a relation close, or that they never do."""

import unittest
from itertools import product
from math import prod

from closechains.chains import chain, member
from closechains.closing import closes_after, closing
from closechains.errors import Bent, InvalidNumber
from closechains.points import is_point
from closechains.relations import Relation, partners, quartic
from tests.helper import (ENDING_NEVER, FREE, GREAT_MOVES, MOVES, PAIRLESS, SQUARE, known_closing,
                          moved, walked_closing)

SMALL_PRIMES = [2, 3, 5, 7, 11, 13, 17, 19]
GREAT_PRIME = 99999989


def all_known():
    """Every known relation, as (steps or None, numbers)."""
    return ([row[:2] for row in known_closing()] + [(steps, numbers) for numbers, steps, _ in PAIRLESS]
            + [(None, row[0]) for row in ENDING_NEVER])


class ClosingTest(unittest.TestCase):
    def test_known_ones(self):
        told = set()
        for steps, numbers in all_known():
            self.assertEqual(closing(Relation(numbers)), steps, numbers)
            told.add(steps)
        self.assertEqual(told, {3, 4, 5, 6, 7, 8, 9, 10, 12, None})

    def test_the_documents_ones(self):
        for numbers, wanted in [(SQUARE, 4), (FREE, None), ([0, 1, 1, -9, 2, 1], 5),
                                ([0, 2, 0, -7, 0, 2], 3), ([1, 0, 0, -4, -16, 64], 7)]:
            self.assertEqual(closing(Relation(numbers)), wanted)

    def test_against_chains_of_fractions(self):
        for _, numbers, first, second in known_closing():
            relation = Relation(numbers)
            told = chain(relation, first, second, 14)
            walked = min(n for n in range(1, 13) if told[n:n + 2] == [first, second])
            self.assertEqual(closing(relation), walked)
        for numbers, first, second in ENDING_NEVER:
            told = chain(Relation(numbers), first, second, 40)
            self.assertNotIn((first, second), list(zip(told, told[1:]))[1:])

    def test_against_chains_of_other_numbers(self):
        for _, numbers in all_known():
            self.assertEqual(closing(Relation(numbers)), walked_closing(numbers))

    def test_all_small_relations(self):
        told = {}
        for numbers in product([0, 1], [-1, 0, 2], [-1, 0, 1], [-2, 0, 1], [-1, 1], [-1, 0, 1]):
            try:
                relation = Relation(list(numbers))
            except Bent:
                continue
            steps = closing(relation)
            self.assertEqual(steps, walked_closing(numbers), numbers)
            told[steps] = told.get(steps, 0) + 1
        self.assertGreater(told.pop(None), 150)
        self.assertGreater(len(told), 4)

    def test_relations_that_no_two_points_have(self):
        points = [(1, 0)] + [(top, bottom) for bottom in range(1, 9) for top in range(-12, 13)
                             if is_point((top, bottom))]
        for numbers, steps, modulus in PAIRLESS:
            relation = Relation(numbers)
            self.check_no_square(quartic(relation), modulus)
            self.assertEqual([partners(relation, point) for point in points], [[] for _ in points])
            self.assertEqual(closing(relation), steps)

    def check_no_square(self, told, modulus):
        squares = {k * k % modulus for k in range(modulus)}
        for x, one in [(k, told) for k in range(modulus)] + [(k, told[::-1]) for k in range(modulus)]:
            self.assertNotIn(sum(d * x ** (4 - at) for at, d in enumerate(one)) % modulus, squares)

    def test_moved_relations(self):
        for steps, numbers in all_known():
            for move in MOVES + GREAT_MOVES:
                self.assertEqual(closing(Relation(moved(numbers, move))), steps)

    def test_multiples_of_the_numbers(self):
        for steps, numbers in all_known():
            for factor in (-1, 6, -10 ** 7):
                self.assertEqual(closing(Relation([factor * x for x in numbers])), steps)

    def test_closing_modulo_primes_only(self):
        never = 0
        for far in (prod(SMALL_PRIMES), GREAT_PRIME, 10 ** 8 // 2 ** 8 * 2 ** 8):
            for steps, numbers, _, _ in known_closing():
                for at in range(6):
                    changed = [x + far * (k == at) for k, x in enumerate(numbers)]
                    wanted = walked_closing(changed)
                    self.assertEqual(closing(Relation(changed)), wanted, changed)
                    never += wanted is None
        self.assertGreater(never, 300)

    def test_great_numbers(self):
        for numbers in [[99999989, -99999971, 99999941, 10 ** 8, -99999877, 3],
                        [10 ** 8, 10 ** 8, 10 ** 8, 10 ** 8, 10 ** 8, -10 ** 8],
                        [10 ** 8, 0, 10 ** 8 - 1, 1, 0, 10 ** 8], [-10 ** 8, 1, 0, 0, 0, 10 ** 8]]:
            self.assertEqual(closing(Relation(numbers)), walked_closing(numbers))
        for x in (10 ** 8, 10 ** 8 - 1, -99999989):
            # Chains of x and y with x*x*y*y + x*x + y*y + d*x*y + 1 = 0 close after 4 steps.
            self.assertEqual(closing(Relation([1, 0, 1, x, 0, 1])), 4)
            self.assertEqual(closing(Relation([x, 0, 1, 7, 0, x])), None)

    def test_by_name_and_unchanged(self):
        relation = Relation(SQUARE)
        self.assertEqual(closing(relation=relation), 4)
        self.assertEqual(relation.numbers, SQUARE)


class ClosesAfterTest(unittest.TestCase):
    def test_multiples_and_others(self):
        for steps, numbers in all_known():
            relation = Relation(numbers)
            for number in range(1, 40):
                wanted = steps is not None and number % steps == 0
                self.assertIs(closes_after(relation, number), wanted)

    def test_against_chains_of_fractions(self):
        for _, numbers, first, second in known_closing():
            relation = Relation(numbers)
            told = chain(relation, first, second, 26)
            for number in range(1, 25):
                wanted = told[number:number + 2] == [first, second]
                self.assertIs(closes_after(relation, number), wanted)

    def test_great_numbers_of_steps(self):
        for steps, numbers in all_known():
            relation = Relation(numbers)
            for number in (10 ** 30, 10 ** 30 - 1, 2520 * 10 ** 26, 7 ** 35, 2 ** 99, 9 * 10 ** 29 + 9, 3 ** 60):
                wanted = steps is not None and number % steps == 0
                self.assertIs(closes_after(relation, number), wanted)

    def test_numbers_below_1(self):
        for numbers in (SQUARE, FREE, PAIRLESS[0][0]):
            relation = Relation(numbers)
            for number in (0, -1, -4, -12, -10 ** 30):
                with self.assertRaises(InvalidNumber) as caught:
                    closes_after(relation, number)
                self.assertEqual(caught.exception.value, number)
            self.assertEqual(relation.numbers, numbers)

    def test_by_name(self):
        relation = Relation(SQUARE)
        self.assertIs(closes_after(number=8, relation=relation), True)
        self.assertIs(closes_after(number=9, relation=relation), False)
        with self.assertRaises(InvalidNumber) as caught:
            closes_after(number=-4, relation=relation)
        self.assertEqual(caught.exception.value, -4)

    def test_members_at_the_ends_of_closed_chains(self):
        for steps, numbers, first, second in known_closing():
            relation = Relation(numbers)
            self.assertEqual(member(relation, first, second, -steps), first)
            self.assertEqual(member(relation, first, second, steps + 1), second)
