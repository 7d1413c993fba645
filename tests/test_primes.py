"""Residues of points, and pairs, rounds and members of chains modulo a prime."""

import unittest
from fractions import Fraction
from itertools import product

from closechains.chains import chain, member
from closechains.closing import closing
from closechains.errors import Bent, InvalidPoint, InvalidPrime, NotPair
from closechains.points import is_point
from closechains.primes import member_modulo, pairs_modulo, reduced, rounds_modulo
from closechains.relations import Relation, quartic
from closechains.steps import step_numbers
from tests.helper import (ENDING_NEVER, FIVE, FREE, PAIRLESS, SQUARE, great_relation, known_closing,
                          told_sum)

PRIMES = [5, 7, 11, 13, 17, 19, 23, 29, 31, 37, 41, 43, 47, 53, 59, 61, 67, 71, 73, 79, 83, 89, 97,
          101, 103, 107, 109, 113, 127, 131, 137, 139, 149, 151, 157, 163, 167, 173, 179, 181, 191,
          193, 197, 199]
NO_PRIMES = [n for n in range(-210, 220) if n not in PRIMES] + [
    211, 223, 227, 997, 14 * 14, 5 * 41, 7 * 31, 11 * 19, 10 ** 30, 10 ** 30 + 57, -10 ** 30, 2 ** 61 - 1]
GREAT = [99999989, -99999971, 99999941, 10 ** 8, -99999877, 3]
WRONG = [(2, 4), (0, 0), (-1, 0), (3, -2), (0, 2)]
RELATIONS = ([row[1] for row in known_closing()] + [row[0] for row in PAIRLESS]
             + [row[0] for row in ENDING_NEVER] + [GREAT, [3, -2, 5, 7, -1, 4], [1, 1, 0, 1, 0, 1]])


def is_allowed(numbers, prime):
    """Tell whether 4*I*I*I - J*J of promise [5] is no multiple of a prime."""
    d4, d3, d2, d1, d0 = quartic(Relation(numbers))
    i = 12*d4*d0 - 3*d3*d1 + d2*d2
    j = 72*d4*d2*d0 + 9*d3*d2*d1 - 27*d4*d1*d1 - 27*d3*d3*d0 - 2*d2*d2*d2
    return (4*i*i*i - j*j) % prime != 0


def as_point(residue, prime):
    return (1, 0) if residue == prime else (residue, 1)


def tried_pairs(numbers, prime):
    """All pairs of residues that have the relation, each of them tried."""
    told = range(prime + 1)
    return [(x, y) for x, y in product(told, repeat=2)
            if told_sum(numbers, as_point(x, prime), as_point(y, prime)) % prime == 0]


def successors(numbers, prime):
    """Which pair each pair is followed by, told by the partners that were tried."""
    partners = {}
    for x, y in tried_pairs(numbers, prime):
        partners.setdefault(x, []).append(y)
    return {(x, y): (y, next((z for z in partners[y] if z != x), x)) for x in partners for y in partners[x]}


def walked_rounds(numbers, prime):
    """The rounds of pairs, each a list."""
    following = successors(numbers, prime)
    found = []
    while following:
        start = pair = min(following)
        walked = []
        while pair in following:
            walked.append(pair)
            pair = following.pop(pair)
        assert pair == start
        found.append(walked)
    return found


def allowed(numbers, primes):
    return [prime for prime in primes if is_allowed(numbers, prime)]


class ReducedTest(unittest.TestCase):
    def test_known_ones(self):
        for point, prime, wanted in [
                ((1, 4), 7, 2), ((1, 0), 7, 7), ((0, 1), 7, 0), ((7, 1), 7, 0), ((7, 2), 7, 0),
                ((-1, 1), 7, 6), ((-7, 3), 7, 0), ((1, 7), 7, 7), ((-5, 14), 7, 7), ((3, 49), 7, 7),
                ((1, 2), 5, 3), ((-1, 2), 5, 2), ((1, 0), 199, 199), ((-1, 198), 199, 1), ((1, 199), 199, 199),
                ((1, 199), 197, 99), ((199, 5), 199, 0)]:
            self.assertEqual(reduced(point, prime), wanted)

    def test_every_prime(self):
        points = [(top, bottom) for bottom in range(9) for top in range(-12, 13) if is_point((top, bottom))]
        for prime in PRIMES:
            for point in points + [(1, prime), (-3, prime), (2, prime ** 3), (prime, 1), (-prime, prime + 1)]:
                told = reduced(point, prime)
                self.assertTrue(0 <= told <= prime)
                top, bottom = point
                if bottom % prime == 0:
                    self.assertEqual(told, prime)
                else:
                    self.assertLess(told, prime)
                    self.assertEqual((told * bottom - top) % prime, 0)

    def test_every_residue(self):
        for prime in (5, 7, 199):
            self.assertEqual([reduced((k, 1), prime) for k in range(prime)], list(range(prime)))
            told = [reduced((1, k), prime) for k in range(1, prime)]
            self.assertEqual(sorted(told), list(range(1, prime)))

    def test_great_numbers(self):
        for prime in PRIMES:
            for top in (10 ** 30, -10 ** 30, 10 ** 6 - 1):
                point = Fraction(top, 10 ** 30 + 7)
                told = reduced((point.numerator, point.denominator), prime)
                self.assertEqual((told * point.denominator - point.numerator) % prime, 0)

    def test_no_primes(self):
        for prime in NO_PRIMES:
            for point in [(1, 2), (1, 0), (0, 1)]:
                with self.assertRaises(InvalidPrime) as caught:
                    reduced(point, prime)
                self.assertEqual(caught.exception.value, prime)

    def test_wrong_points_ahead_of_the_prime(self):
        for wrong in WRONG:
            for prime in (7, 199, 6, 3, 0, -7, 211, 10 ** 30):
                with self.assertRaises(InvalidPoint) as caught:
                    reduced(wrong, prime)
                self.assertIs(caught.exception.value, wrong)

    def test_primes_that_only_relations_refuse(self):
        self.assertFalse(is_allowed(SQUARE, 5))
        self.assertEqual(reduced((1, 2), 5), 3)

    def test_by_name(self):
        self.assertEqual(reduced(prime=7, point=(1, 4)), 2)


class PrimeCheckTest(unittest.TestCase):
    def calls(self, numbers, prime):
        relation = Relation(numbers)
        yield lambda: pairs_modulo(relation, prime)
        yield lambda: rounds_modulo(relation, prime)
        for first, second in [(1, 2), (-1, 2), (1, prime + 1), (0, 0)]:
            yield lambda: member_modulo(relation, prime, first, second, 3)

    def check_refused(self, numbers, prime):
        for call in self.calls(numbers, prime):
            with self.assertRaises(InvalidPrime) as caught:
                call()
            self.assertIs(type(caught.exception), InvalidPrime)
            self.assertEqual(caught.exception.value, prime)

    def test_no_primes(self):
        for prime in NO_PRIMES:
            self.check_refused(SQUARE, prime)
        for prime in (2, 3, 4, 25, 35, 49, 121, 169, 187, 200, 209, 211):
            for numbers in (FREE, FIVE, GREAT):
                self.check_refused(numbers, prime)

    def test_primes_modulo_which_it_is_bent(self):
        refused = 0
        for numbers in RELATIONS:
            for prime in PRIMES[:20]:
                if not is_allowed(numbers, prime):
                    self.check_refused(numbers, prime)
                    refused += 1
        self.assertGreater(refused, 40)
        for prime in PRIMES:
            self.check_refused([1, 0, 0, 0, prime, prime], prime)

    def test_numbers_as_they_are_told(self):
        # The divisor of the passed numbers is none of the told ones.
        for prime in (7, 11, 199):
            times = [prime * x for x in FREE]
            self.assertEqual(pairs_modulo(Relation(times), prime), pairs_modulo(Relation(FREE), prime))

    def test_allowed_primes(self):
        for numbers in RELATIONS[::3]:
            for prime in allowed(numbers, PRIMES[:8]):
                self.assertGreater(len(pairs_modulo(Relation(numbers), prime)), 0)
        for prime in PRIMES:
            if is_allowed(FREE, prime):
                self.assertEqual(len(rounds_modulo(Relation(FREE), prime)), 2)


class PairsModuloTest(unittest.TestCase):
    def check(self, numbers, prime):
        told = pairs_modulo(Relation(numbers), prime)
        self.assertEqual(told, tried_pairs(numbers, prime))
        self.assertEqual(told, sorted(set(told)))
        self.assertEqual(sorted((y, x) for x, y in told), told)
        return told

    def test_known_one(self):
        self.assertEqual(pairs_modulo(Relation(SQUARE), 7),
                         [(1, 2), (1, 4), (2, 1), (3, 6), (4, 1), (5, 6), (6, 3), (6, 5)])

    def test_against_all_pairs_of_residues(self):
        endless = 0
        for numbers in RELATIONS:
            for prime in allowed(numbers, PRIMES[:6]):
                told = self.check(numbers, prime)
                endless += (prime, prime) in told
        self.assertGreater(endless, 3)

    def test_great_primes(self):
        for numbers in (SQUARE, FREE, FIVE, GREAT):
            for prime in allowed(numbers, (97, 199)):
                self.check(numbers, prime)

    def test_great_numbers(self):
        for numbers in (GREAT, great_relation(10 ** 8 - 5), step_numbers(Relation(GREAT), 12)):
            for prime in allowed(numbers, (5, 7, 23)):
                self.check(numbers, prime)

    def test_a_new_list_each_time(self):
        relation = Relation(SQUARE)
        told = pairs_modulo(relation, 7)
        self.assertIs(type(told), list)
        self.assertTrue(all(type(pair) is tuple for pair in told))
        kept = list(told)
        told.clear()
        self.assertEqual(pairs_modulo(relation, 7), kept)
        self.assertEqual(relation.numbers, SQUARE)

    def test_by_name(self):
        self.assertEqual(len(pairs_modulo(prime=7, relation=Relation(SQUARE))), 8)


class RoundsModuloTest(unittest.TestCase):
    def check(self, numbers, prime):
        told = rounds_modulo(Relation(numbers), prime)
        self.assertIs(type(told), tuple)
        rounds = walked_rounds(numbers, prime)
        self.assertEqual({len(one) for one in rounds}, {told[0]})
        self.assertEqual(len(rounds), told[1])
        return told

    def test_against_walked_rounds(self):
        lengths = set()
        for numbers in RELATIONS:
            for prime in allowed(numbers, PRIMES[:7]):
                lengths.add(self.check(numbers, prime)[0])
        self.assertLessEqual(set(range(3, 13)), lengths)
        self.assertGreater(max(lengths), 20)

    def test_great_primes(self):
        for numbers in (SQUARE, FREE, FIVE, GREAT):
            for prime in allowed(numbers, (101, 193, 197, 199)):
                self.check(numbers, prime)

    def test_one_round_and_many(self):
        self.assertEqual(rounds_modulo(Relation(SQUARE), 7), (4, 2))
        told = [rounds_modulo(Relation(FREE), prime)[1] for prime in allowed(FREE, PRIMES)]
        self.assertIn(1, told)
        self.assertGreater(max(told), 5)

    def test_as_long_as_chains_that_close(self):
        for steps, numbers in ([row[:2] for row in known_closing()]
                               + [(row[1], row[0]) for row in PAIRLESS if row[1]]):
            primes = allowed(numbers, PRIMES[::5] + [5, 7])
            self.assertGreater(len(primes), 3)
            for prime in primes:
                length, number = rounds_modulo(Relation(numbers), prime)
                self.assertEqual(length, steps)
                self.assertEqual(length * number, len(pairs_modulo(Relation(numbers), prime)))

    def test_chains_that_never_close_do_so_modulo_primes(self):
        for numbers, _, _ in ENDING_NEVER:
            self.assertIsNone(closing(Relation(numbers)))
            lengths = {rounds_modulo(Relation(numbers), prime)[0] for prime in allowed(numbers, PRIMES[:20])}
            self.assertGreater(len(lengths), 6)

    def test_there_is_a_pair_modulo_every_prime(self):
        # Relations that no two points have, and all modulo 5: there is no prime without pairs.
        for numbers, _, _ in PAIRLESS:
            for prime in allowed(numbers, PRIMES[:12]):
                length, number = rounds_modulo(Relation(numbers), prime)
                self.assertGreaterEqual(length, 3)
                self.assertGreaterEqual(number, 1)
        fewest = 99
        for numbers in product([0, 1, 3], range(5), [0, 1, 4], range(5), [0, 2], range(5)):
            try:
                relation = Relation(list(numbers))
            except Bent:
                continue
            if is_allowed(numbers, 5):
                length, number = rounds_modulo(relation, 5)
                self.assertGreaterEqual(length * number, 3)
                fewest = min(fewest, length * number)
        self.assertEqual(fewest, 3)

    def test_by_name_and_unchanged(self):
        relation = Relation(SQUARE)
        self.assertEqual(rounds_modulo(prime=7, relation=relation), (4, 2))
        self.assertEqual(relation.numbers, SQUARE)


class MemberModuloTest(unittest.TestCase):
    def test_known_ones(self):
        square = Relation(SQUARE)
        for index, wanted in [(0, 1), (1, 2), (2, 1), (3, 4), (4, 1), (-1, 4), (-2, 1), (-3, 2), (10 ** 30, 1),
                              (10 ** 30 + 1, 2), (10 ** 30 - 1, 4), (-10 ** 30, 1), (1 - 10 ** 30, 2)]:
            self.assertEqual(member_modulo(square, 7, 1, 2, index), wanted)

    def test_against_walked_rounds(self):
        for numbers in RELATIONS:
            for prime in allowed(numbers, (5, 7, 13)):
                for walked in walked_rounds(numbers, prime):
                    first, second = walked[0]
                    for index in (*range(-9, 20), 10 ** 30, -10 ** 30, 10 ** 30 - 7, 3 - 10 ** 30, 2 ** 97):
                        told = member_modulo(Relation(numbers), prime, first, second, index)
                        self.assertEqual(told, walked[index % len(walked)][0])

    def test_every_start(self):
        for numbers in (SQUARE, FREE, FIVE, GREAT):
            for prime in allowed(numbers, (7, 11, 17)):
                following = successors(numbers, prime)
                for (first, second), (_, third) in following.items():
                    told = [member_modulo(Relation(numbers), prime, first, second, k) for k in (0, 1, 2)]
                    self.assertEqual(told, [first, second, third])
                    self.assertEqual(member_modulo(Relation(numbers), prime, second, third, -1), first)

    def test_a_residue_with_itself(self):
        found = 0
        for numbers in RELATIONS:
            for prime in allowed(numbers, PRIMES[:4]):
                following = successors(numbers, prime)
                for residue in range(prime + 1):
                    if (residue, residue) in following:
                        _, third = following[residue, residue]
                        told = [member_modulo(Relation(numbers), prime, residue, residue, k)
                                for k in (-1, 0, 1, 2)]
                        self.assertEqual(told, [third, residue, residue, third])
                        found += 1
        self.assertGreater(found, 50)

    def test_great_primes(self):
        for numbers in (FREE, GREAT):
            for prime in allowed(numbers, (191, 197, 199)):
                for walked in walked_rounds(numbers, prime)[:2]:
                    first, second = walked[0]
                    for index in (0, 1, -1, 100, -100, 10 ** 30, -10 ** 30):
                        told = member_modulo(Relation(numbers), prime, first, second, index)
                        self.assertEqual(told, walked[index % len(walked)][0])

    def test_residues_of_members_of_chains(self):
        for numbers, first, second in [row[1:] for row in known_closing()] + ENDING_NEVER:
            relation = Relation(numbers)
            told = {k: member(relation, first, second, k) for k in range(-12, 14)}
            for prime in allowed(numbers, PRIMES[:4] + [71, 199]):
                x, y = reduced(first, prime), reduced(second, prime)
                self.assertIn((x, y), pairs_modulo(relation, prime))
                for k, point in told.items():
                    self.assertEqual(member_modulo(relation, prime, x, y, k), reduced(point, prime))

    def test_residues_of_members_far_on(self):
        told = chain(Relation(FREE), (1, 0), (0, 1), 60)
        for prime in allowed(FREE, (5, 7, 11, 13)):
            self.assertEqual([member_modulo(Relation(FREE), prime, prime, 0, k) for k in range(60)],
                             [reduced(point, prime) for point in told])

    def check_error(self, prime, first, second, kind, value):
        relation = Relation(SQUARE)
        for index in (0, 1, -1, 10 ** 30):
            with self.assertRaises(kind) as caught:
                member_modulo(relation, prime, first, second, index)
            self.assertIs(type(caught.exception), kind)
            self.assertEqual(caught.exception.value, value)
        self.assertEqual(relation.numbers, SQUARE)

    def test_residues_out_of_the_range(self):
        for prime in (7, 11, 199):
            for wrong in (-1, prime + 1, -prime, 10 ** 30, -10 ** 30):
                self.check_error(prime, wrong, 2, InvalidPoint, wrong)
                self.check_error(prime, 1, wrong, InvalidPoint, wrong)
                self.check_error(prime, wrong, -5, InvalidPoint, wrong)
                self.check_error(prime, wrong, prime + 9, InvalidPoint, wrong)
        # These would have the relation, taken modulo the prime.
        self.check_error(7, 8, 2, InvalidPoint, 8)
        self.check_error(7, 1, 9, InvalidPoint, 9)
        self.check_error(7, 1, -5, InvalidPoint, -5)

    def test_no_pairs(self):
        told = pairs_modulo(Relation(SQUARE), 7)
        for first, second in product(range(8), repeat=2):
            if (first, second) not in told:
                self.check_error(7, first, second, NotPair, (first, second))
        self.check_error(7, 7, 7, NotPair, (7, 7))
        self.check_error(7, 0, 0, NotPair, (0, 0))

    def test_the_prime_is_checked_ahead_of_the_rest(self):
        for prime in (5, 3, 2, 1, 0, -7, 6, 9, 25, 211, 10 ** 30):
            for first, second in [(1, 2), (-1, 2), (1, 10 ** 9), (0, 0)]:
                self.check_error(prime, first, second, InvalidPrime, prime)

    def test_by_name(self):
        told = member_modulo(index=3, second=2, first=1, prime=7, relation=Relation(SQUARE))
        self.assertEqual(told, 4)
