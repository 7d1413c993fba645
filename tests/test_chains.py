"""Promise [6]: chains, their members of either sign of index, and what they refuse."""

import unittest
from itertools import product

from closechains.chains import chain, following, member
from closechains.errors import InvalidNumber, InvalidPoint, NotPair
from closechains.points import is_point
from closechains.relations import Relation, partners
from tests.helper import (ENDING_NEVER, FIVE, FREE, GREAT_MOVES, MOVES, SQUARE, great_relation,
                          known_closing, moved, moved_back, told_sum)

POINTS = [(1, 0)] + [(top, bottom) for bottom in range(1, 5) for top in range(-7, 8)
                     if is_point((top, bottom))]
WRONG = [(2, 4), (0, 0), (-1, 0), (3, -2), (0, 2)]


def starts():
    """Every known relation with two points that have it, as lists of numbers and points."""
    return [row[1:] for row in known_closing()] + ENDING_NEVER


def is_double(numbers, point):
    """Tell whether both partners of a point are the same."""
    a, b, c, d, e, f = numbers
    p, q = point
    high, middle, low = (a*p*p + b*p*q + c*q*q, b*p*p + d*p*q + e*q*q, c*p*p + e*p*q + f*q*q)
    return middle * middle == 4 * high * low


class ChainTest(unittest.TestCase):
    def check_members(self, numbers, told):
        """Each further point is the other partner of the last one than the one ahead of it."""
        for point in told:
            self.assertTrue(is_point(point))
        for first, second in zip(told, told[1:]):
            self.assertEqual(told_sum(numbers, first, second), 0)
        for ahead, last, further in zip(told, told[1:], told[2:]):
            self.assertEqual(further == ahead, is_double(numbers, last), (numbers, told))

    def test_known_chains(self):
        for numbers, told in [
                (FREE, [(1, 0), (0, 1), (1, 1), (-1, 1), (2, 1), (1, 4), (6, 1)]),  # the endless one
                (FREE, [(0, 1), (1, 0), (0, 1), (1, 1), (-1, 1), (2, 1)]),  # of one partner
                (FIVE, [(1, 1), (1, 1), (2, 1), (3, 1), (2, 1), (1, 1), (1, 1)]),  # equal ones
                (FIVE, [(1, 0), (1, 0), (-1, 1)]),  # the endless one twice
                (SQUARE, [(1, 1), (2, 1), (1, 1), (1, 2), (1, 1), (2, 1)]),
                (SQUARE, [(2, 1), (1, 1), (1, 2), (1, 1), (2, 1), (1, 1)]),
                ([0, 1, -1, 1, 1, 0], [(0, 1), (0, 1), (1, 1), (1, 0), (1, 0), (1, 1)]),  # 0 twice
                ([1, 1, 0, 1, 0, 1], [(0, 1), (1, 0), (-1, 1), (1, 0), (0, 1), (1, 0)])]:
            relation = Relation(numbers)
            self.assertEqual(chain(relation, told[0], told[1], len(told)), told)
            for at in range(len(told) - 2):
                self.assertEqual(following(relation, told[at], told[at + 1]), told[at + 2])
                self.assertEqual(following(relation, told[at + 2], told[at + 1]), told[at])

    def test_every_pair_of_small_points(self):
        found = 0
        for numbers, first, _ in starts():
            relation = Relation(numbers)
            for point in POINTS + [first]:
                for second in partners(relation, point):
                    self.check_members(numbers, chain(relation, point, second, 8))
                    found += 1
        self.assertGreater(found, 250)

    def test_every_length(self):
        for numbers, first, second in starts():
            relation = Relation(numbers)
            long = chain(relation, first, second, 20)
            self.assertEqual(long[:2], [first, second])
            self.check_members(numbers, long)
            for length in range(21):
                self.assertEqual(chain(relation, first, second, length), long[:length])

    def test_begun_further_on_and_the_other_way_about(self):
        for numbers, first, second in starts():
            relation = Relation(numbers)
            long = chain(relation, first, second, 16)
            for at in range(15):
                self.assertEqual(chain(relation, long[at], long[at + 1], 16 - at), long[at:])
                back = chain(relation, long[at + 1], long[at], at + 2)
                self.assertEqual(back, long[at + 1::-1])

    def test_members(self):
        for numbers, first, second in starts():
            relation = Relation(numbers)
            onward = chain(relation, first, second, 18)
            back = chain(relation, second, first, 19)
            for index in range(18):
                self.assertEqual(member(relation, first, second, index), onward[index])
                self.assertEqual(member(relation, first, second, -index), back[index + 1])

    def test_members_of_a_chain_begun_elsewhere(self):
        for numbers, first, second in starts():
            relation = Relation(numbers)
            told = {k: member(relation, first, second, k) for k in range(-16, 18)}
            self.check_members(numbers, [told[k] for k in range(-16, 18)])
            for at in (-16, -3, -1, 1, 5):
                for index in (-4, -1, 0, 1, 2, 7):
                    if at + index in told:
                        self.assertEqual(member(relation, told[at], told[at + 1], index), told[at + index])

    def test_following_is_member_2(self):
        for numbers, first, second in starts():
            relation = Relation(numbers)
            self.assertEqual(following(relation, first, second), member(relation, first, second, 2))
            self.assertEqual(following(relation, second, first), member(relation, first, second, -1))

    def test_known_chains_close_after_their_steps_and_not_earlier(self):
        for steps, numbers, first, second in known_closing():
            long = chain(Relation(numbers), first, second, 2 * steps + 2)
            returns = [n for n in range(1, 2 * steps + 1) if long[n:n + 2] == [first, second]]
            self.assertEqual(returns, [steps, 2 * steps])

    def test_moved_chains(self):
        for move in MOVES + GREAT_MOVES:
            for numbers, first, second in starts():
                told = chain(Relation(numbers), first, second, 9)
                wanted = [moved_back(point, move) for point in told]
                relation = Relation(moved(numbers, move))
                self.assertEqual(chain(relation, wanted[0], wanted[1], 9), wanted)
                self.assertEqual(member(relation, wanted[4], wanted[5], -4), wanted[0])

    def test_great_numbers(self):
        for k in [10 ** 6, 10 ** 8 - 5, 10 ** 29]:
            numbers = great_relation(k)
            relation = Relation(numbers)
            told = chain(relation, (1, 1), (k, 1), 16)
            self.assertEqual(told[2], (2 * k - 1, k))
            self.check_members(numbers, told)
            self.assertEqual([member(relation, (1, 1), (k, 1), index) for index in (-1, -2, -3)],
                             [(1, 1), (k, 1), (2 * k - 1, k)])

    def test_a_new_list_each_time(self):
        relation = Relation(SQUARE)
        for length in (0, 1, 2, 5):
            told = chain(relation, (1, 1), (2, 1), length)
            self.assertIs(type(told), list)
            kept = list(told)
            told.append(None)
            told.reverse()
            self.assertEqual(chain(relation, (1, 1), (2, 1), length), kept)
        self.assertEqual(relation.numbers, SQUARE)

    def test_by_name(self):
        relation = Relation(FREE)
        self.assertEqual(following(second=(0, 1), first=(1, 0), relation=relation), (1, 1))
        self.assertEqual(chain(length=3, second=(0, 1), first=(1, 0), relation=relation),
                         [(1, 0), (0, 1), (1, 1)])
        self.assertEqual(member(index=5, second=(0, 1), first=(1, 0), relation=relation), (1, 4))
        self.assertEqual(relation.numbers, FREE)


class ChainErrorTest(unittest.TestCase):
    def calls(self, first, second):
        relation = Relation(SQUARE)
        yield lambda: following(relation, first, second)
        for length in (-10 ** 30, -1, 0, 1, 7):
            yield lambda: chain(relation, first, second, length)
        for index in (-16, -1, 0, 1, 16):
            yield lambda: member(relation, first, second, index)

    def check(self, first, second, kind, value):
        for call in self.calls(first, second):
            with self.assertRaises(kind) as caught:
                call()
            self.assertIs(type(caught.exception), kind)
            self.assertEqual(caught.exception.value, value)

    def test_a_wrong_first_point(self):
        for wrong in WRONG:
            for other in [(1, 1), (2, 1), (0, 1), (1, 0)]:
                self.check(wrong, other, InvalidPoint, wrong)

    def test_a_wrong_second_point(self):
        for wrong in WRONG:
            for other in [(1, 1), (2, 1), (0, 1), (1, 0)]:
                self.check(other, wrong, InvalidPoint, wrong)

    def test_two_wrong_points(self):
        for first, second in product(WRONG, repeat=2):
            self.check(first, second, InvalidPoint, first)

    def test_wrong_points_that_would_have_the_relation(self):
        self.check((2, 2), (2, 1), InvalidPoint, (2, 2))
        self.check((1, 1), (-2, -1), InvalidPoint, (-2, -1))
        self.check((1, 1), (4, 2), InvalidPoint, (4, 2))

    def test_no_pair(self):
        for first, second in [((1, 1), (1, 1)), ((1, 0), (1, 0)), ((1, 0), (0, 1)), ((2, 1), (2, 1)),
                              ((1, 1), (1, 3)), ((-1, 1), (2, 1)), ((0, 1), (0, 1))]:
            self.check(first, second, NotPair, (first, second))
            self.check(second, first, NotPair, (second, first))

    def test_a_negative_length(self):
        for numbers, first, second in starts():
            for length in (-1, -2, -16, -10 ** 30):
                with self.assertRaises(InvalidNumber) as caught:
                    chain(Relation(numbers), first, second, length)
                self.assertEqual(caught.exception.value, length)

    def test_an_error_changes_nothing(self):
        relation = Relation(SQUARE)
        for first, second, length in [((2, 4), (1, 1), 3), ((1, 1), (1, 1), 3), ((1, 1), (2, 1), -3)]:
            with self.assertRaises(ValueError):
                chain(relation, first, second, length)
        self.assertEqual(relation.numbers, SQUARE)
        self.assertEqual(chain(relation, (1, 1), (2, 1), 3), [(1, 1), (2, 1), (1, 1)])
