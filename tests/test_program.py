"""The whole program: chains, steps, the relation found again, polygons, walks and texts of one relation."""

import unittest

from closechains.chains import chain, following, member
from closechains.closing import closes_after, closing
from closechains.errors import Bent, NotOne
from closechains.exchange import are_exchanged, meetings
from closechains.points import sorted_points
from closechains.polygons import side, touched, touching
from closechains.primes import member_modulo, pairs_modulo, reduced, rounds_modulo
from closechains.readings import read_point, read_relation
from closechains.relations import Relation, holds, partners
from closechains.steps import is_doubled, step_numbers
from closechains.texts import show_point, show_relation
from closechains.through import free_numbers, through
from closechains.walks import ShortWalk, Walk
from tests.helper import ENDING_NEVER, FREE, known_closing

KNOWN = known_closing() + [(None, *row) for row in ENDING_NEVER]


class ProgramTest(unittest.TestCase):
    def each(self):
        for steps, numbers, first, second in KNOWN:
            relation = Relation(numbers)
            members = {k: member(relation, first, second, k) for k in range(-16, 18)}
            yield steps, relation, members
            self.assertEqual(relation, Relation(numbers))

    def test_chains_and_walks_tell_the_same_members(self):
        for _, relation, members in self.each():
            walk = Walk(relation, members[0], members[1])
            short = ShortWalk(relation, members[0], members[1], 16)
            self.assertEqual(chain(relation, members[0], members[1], 18), [members[k] for k in range(18)])
            for k in range(17):
                self.assertEqual([walk.pair, short.pair], [(members[k], members[k + 1])] * 2)
                if k < 16:
                    walk.on()
                    short.on()
            for k in range(16, -17, -1):
                self.assertEqual(walk.pair, (members[k], members[k + 1]))
                self.assertEqual(walk.place, k)
                if k > -16:
                    walk.back()
            self.assertEqual(len(walk), 48)

    def test_walks_of_chains_that_close(self):
        for steps, relation, members in self.each():
            walk = Walk(relation, members[0], members[1])
            for k in range(1, 17):
                walk.on()
                back = walk.pair == (members[0], members[1])
                self.assertEqual(back, steps is not None and closes_after(relation, k))
            self.assertEqual(closing(relation), steps)

    def test_the_relation_of_members_some_steps_apart(self):
        for _, relation, members in self.each():
            for number in range(13):
                numbers = step_numbers(relation, number)
                try:
                    other = Relation(numbers)
                except Bent:
                    continue
                self.assertTrue(are_exchanged(relation, other))
                for k in range(-8, 4):
                    self.assertTrue(holds(other, members[k], members[k + number]))
                    if k + number < 16:
                        self.assertIn(members[k + number + 1],
                                      meetings(relation, other, members[k + number], members[k + 1]))
                if is_doubled(relation, number):
                    self.assertEqual(partners(other, members[0]), [members[number]])
                elif members[number] != members[-number]:
                    two = sorted_points([members[number], members[-number]])
                    self.assertEqual(partners(other, members[0]), two)

    def test_the_relation_found_again(self):
        found = 0
        for _, relation, members in self.each():
            pairs = [(members[k], members[k + 1]) for k in range(-3, 5)]
            if free_numbers(pairs) == 1:
                self.assertEqual(through(pairs), relation)
                found += 1
            else:
                self.assertRaises(NotOne, through, pairs)
        self.assertGreater(found, 10)

    def test_relations_of_steps_found_again(self):
        found = 0
        for _, relation, members in self.each():
            for number in range(2, 6):
                pairs = [(members[k], members[k + number]) for k in range(-4, 4)]
                if free_numbers(pairs) == 1:
                    try:
                        told = through(pairs).numbers
                    except Bent:
                        continue
                    self.assertEqual(told, step_numbers(relation, number))
                    found += 1
        self.assertGreater(found, 20)

    def test_polygons_of_walks(self):
        for _, relation, members in self.each():
            walk = Walk(relation, members[0], members[1])
            a, b, c, d, e, f = touched(relation)
            for _ in range(8):
                line = side(*walk.pair)
                x, y, z = touching(relation, *walk.pair)
                self.assertEqual(a*x*x + b*x*y + c*y*y + d*x*z + e*y*z + f*z*z, 0)
                self.assertEqual(line[0] * x + line[1] * y + line[2] * z, 0)
                walk.on()

    def test_polygons_of_steps_touch_curves_through_the_same_points(self):
        # At the corner t a curve tells a multiple of D: both meet Y = X*X at its roots.
        relation = Relation(FREE)
        told = []
        for number in range(1, 6):
            a, b, c, d, e, f = touched(Relation(step_numbers(relation, number)))
            told.append([c, b, a + e, d, f])
        for one in told:
            for other in told:
                self.assertTrue(all(x * other[1] == y * one[1] for x, y in zip(one, other)))

    def test_texts(self):
        for _, relation, members in self.each():
            self.assertEqual(read_relation(show_relation(relation)), relation)
            for number in range(-4, 6):
                text = show_point(members[number])
                if len(text) < 40:
                    self.assertEqual(read_point(text), members[number])
            told = read_relation(show_relation(relation))
            self.assertEqual(following(told, members[0], members[1]), members[2])
            self.assertEqual(Walk(told, members[0], members[1]), Walk(relation, members[0], members[1]))

    def test_rounds_of_the_same_members(self):
        checked = 0
        for steps, relation, members in self.each():
            for prime in (11, 67, 199):
                try:
                    length, number = rounds_modulo(relation, prime)
                except ValueError:
                    continue
                pairs = pairs_modulo(relation, prime)
                self.assertEqual(length * number, len(pairs))
                if steps is not None:
                    self.assertEqual(length, steps)
                x, y = reduced(members[0], prime), reduced(members[1], prime)
                walk = ShortWalk(relation, members[0], members[1], 16)
                for _ in range(16):
                    walk.back()
                    told = [member_modulo(relation, prime, x, y, walk.place + k) for k in (0, 1)]
                    self.assertEqual(told, [reduced(point, prime) for point in walk.pair])
                    self.assertIn(tuple(told), pairs)
                checked += 1
        self.assertGreater(checked, 60)

    def test_rounds_of_steps(self):
        checked = 0
        for _, relation, members in self.each():
            for prime in (13, 31, 101):
                try:
                    length, _ = rounds_modulo(relation, prime)
                    steps = rounds_modulo(Relation(step_numbers(relation, 2)), prime)[0]
                except ValueError:
                    continue
                self.assertEqual(steps, length if length % 2 else length // 2)
                checked += 1
        self.assertGreater(checked, 60)

    def test_nothing_that_is_passed_is_changed(self):
        numbers, pairs = [0, -2, -2, 18, -4, -2], [((1, 1), (1, 1)), ((1, 1), (2, 1))]
        relation = Relation(numbers)
        points = [(1, 1), (1, 0), (2, 1)]
        for call in (closing, touched, show_relation, lambda one: are_exchanged(one, one),
                     lambda one: step_numbers(one, 2), lambda one: rounds_modulo(one, 199),
                     lambda one: meetings(one, one, *points[:2]), lambda one: Walk(one, *points[::2]).on(),
                     lambda one: sorted_points(points), lambda one: free_numbers(pairs)):
            call(relation)
            self.assertEqual(relation.numbers, [0, 1, 1, -9, 2, 1])
        self.assertEqual([numbers, pairs, points], [[0, -2, -2, 18, -4, -2], [((1, 1), (1, 1)), ((1, 1), (2, 1))],
                                                    [(1, 1), (1, 0), (2, 1)]])
