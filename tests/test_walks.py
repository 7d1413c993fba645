"""Walks along chains: places, pairs, stories, what is taken back, and limits."""

import unittest
from itertools import product

from closechains.chains import member
from closechains.errors import InvalidNumber, InvalidPoint, NothingToUndo, NotPair, TooFar
from closechains.relations import Relation
from closechains.walks import ShortWalk, Walk
from tests.helper import ENDING_NEVER, FIVE, FREE, SQUARE, great_relation, known_closing

WRONG = [(2, 4), (0, 0), (-1, 0), (3, -2), (0, 2)]
STARTS = [row[1:] for row in known_closing()] + ENDING_NEVER
CALLS = ["on", "back", "undo"]


def made(numbers=SQUARE, first=(1, 1), second=(2, 1), most=None, calls=()):
    """A walk, limited unless most is None, after some calls."""
    relation = Relation(numbers)
    walk = Walk(relation, first, second) if most is None else ShortWalk(relation, first, second, most)
    for call in calls:
        getattr(walk, call)()
    return walk


def state(walk):
    return (walk.place, walk.pair, walk.story(), len(walk))


class Model:
    """What a walk should tell, by the members of its chain."""

    def __init__(self, numbers, first, second, most):
        self.start = (Relation(numbers), first, second)
        self.most = most
        self.story = []
        self.members = {}

    def member(self, index):
        if index not in self.members:
            self.members[index] = member(*self.start, index)
        return self.members[index]

    def place(self):
        return self.story.count("on") - self.story.count("back")

    def told(self):
        place = self.place()
        return (place, (self.member(place), self.member(place + 1)), self.story, len(self.story))

    def call(self, word):
        """Do a call, and return the class and the value of its error, or None."""
        if word == "undo":
            if not self.story:
                return (NothingToUndo, 0)
            self.story.pop()
            return None
        place = self.place() + (1 if word == "on" else -1)
        if self.most is not None and abs(place) > self.most:
            return (TooFar, place)
        self.story.append(word)
        return None


class WalkTest(unittest.TestCase):
    def play(self, walk, model, calls):
        errors = 0
        for word in calls:
            before = state(walk)
            wanted = model.call(word)
            if wanted is None:
                self.assertIsNone(getattr(walk, word)())
            else:
                with self.assertRaises(wanted[0]) as caught:
                    getattr(walk, word)()
                self.assertIs(type(caught.exception), wanted[0])
                self.assertEqual(caught.exception.value, wanted[1])
                self.assertEqual(state(walk), before)
                errors += 1
            self.assertEqual(state(walk), model.told())
        return errors

    def test_at_first(self):
        for numbers, first, second in STARTS:
            for most in (None, 0, 3):
                walk = made(numbers, first, second, most)
                self.assertEqual(state(walk), (0, (first, second), [], 0))

    def test_every_short_sequence_of_calls(self):
        errors = 0
        for numbers, first, second in [(FREE, (0, 1), (1, 1)), (SQUARE, (1, 1), (2, 1)), (FIVE, (1, 0), (1, 0))]:
            for most in (None, 0, 1, 2):
                for calls in product(CALLS, repeat=5):
                    walk = made(numbers, first, second, most)
                    errors += self.play(walk, Model(numbers, first, second, most), calls)
        self.assertGreater(errors, 1000)

    def test_long_sequences(self):
        for seed, (numbers, first, second) in enumerate(STARTS):
            for most in (None, 2, 16):
                calls = []
                for _ in range(100):
                    seed = (seed * 1103515245 + 12345) % 2 ** 31
                    calls.append(CALLS[seed // 65536 % 7 % 3])
                self.play(made(numbers, first, second, most), Model(numbers, first, second, most), calls)

    def test_to_the_greatest_and_the_least_place(self):
        for numbers, first, second in STARTS:
            for word in ("on", "back"):
                for most in (None, 16, 20):
                    calls = [word] * 18 + ["undo"] * 19
                    errors = self.play(made(numbers, first, second, most), Model(numbers, first, second, most), calls)
                    # Two steps that are too far, and then as many less to take back.
                    self.assertEqual(errors, 5 if most == 16 else 1)

    def test_the_documents_walk(self):
        walk = made()
        walk.on()
        self.assertEqual(walk.pair, ((2, 1), (1, 1)))
        walk.on()
        self.assertEqual(state(walk), (2, ((1, 1), (1, 2)), ["on", "on"], 2))
        for call in ("undo", "back", "back"):
            getattr(walk, call)()
        self.assertEqual(state(walk), (-1, ((1, 2), (1, 1)), ["on", "back", "back"], 3))

    def test_undo_takes_back_each_call_once(self):
        walk = made(FREE, (0, 1), (1, 1))
        before = []
        for word in ("on", "on", "back", "on", "back", "back", "back"):
            before.append(state(walk))
            getattr(walk, word)()
        for wanted in reversed(before):
            self.assertIsNone(walk.undo())
            self.assertEqual(state(walk), wanted)
        for _ in range(3):
            with self.assertRaises(NothingToUndo) as caught:
                walk.undo()
            self.assertEqual(caught.exception.value, 0)
            self.assertIs(type(caught.exception.value), int)
            self.assertEqual(state(walk), before[0])

    def test_undo_after_an_error_takes_back_the_call_ahead_of_it(self):
        walk = made(FREE, (0, 1), (1, 1), 1, ["on"])
        with self.assertRaises(TooFar):
            walk.on()
        walk.undo()
        self.assertEqual(state(walk), (0, ((0, 1), (1, 1)), [], 0))
        with self.assertRaises(NothingToUndo):
            walk.undo()

    def test_equal_places_by_other_stories(self):
        one = made(FREE, (0, 1), (1, 1), None, ["on", "back", "on"])
        other = made(FREE, (0, 1), (1, 1), None, ["on"])
        self.assertEqual((one.place, one.pair), (other.place, other.pair))
        self.assertFalse(one == other)

    def test_two_walks_of_one_relation_go_their_own_ways(self):
        relation = Relation(FREE)
        one = Walk(relation, (0, 1), (1, 1))
        other = ShortWalk(relation, (0, 1), (1, 1), 4)
        one.on()
        self.assertEqual(state(other), (0, ((0, 1), (1, 1)), [], 0))
        other.back()
        other.back()
        self.assertEqual(state(one), (1, ((1, 1), (-1, 1)), ["on"], 1))
        one.undo()
        self.assertEqual(other.story(), ["back", "back"])
        self.assertEqual(relation.numbers, FREE)

    def test_the_told_lists_are_new(self):
        walk = made(FREE, (0, 1), (1, 1), None, ["on", "back"])
        told = walk.story()
        self.assertIs(type(told), list)
        told.append("on")
        told.reverse()
        self.assertEqual(walk.story(), ["on", "back"])
        self.assertEqual(len(walk), 2)
        self.assertIs(type(walk.pair), tuple)

    def test_properties_cannot_be_set(self):
        for most in (None, 3):
            walk = made(most=most)
            for name in ("place", "pair"):
                with self.assertRaises(AttributeError):
                    setattr(walk, name, 1)
            self.assertEqual(state(walk), (0, ((1, 1), (2, 1)), [], 0))

    def test_great_numbers(self):
        numbers, first, second = great_relation(10 ** 8 - 5), (1, 1), (10 ** 8 - 5, 1)
        for word in ("on", "back"):
            self.play(made(numbers, first, second), Model(numbers, first, second, None), [word] * 20)

    def test_by_name(self):
        relation = Relation(SQUARE)
        walk = Walk(second=(2, 1), first=(1, 1), relation=relation)
        short = ShortWalk(most=2, second=(2, 1), first=(1, 1), relation=relation)
        self.assertEqual([walk.pair, short.pair], [((1, 1), (2, 1))] * 2)
        self.assertEqual(relation.numbers, SQUARE)


class ShortWalkTest(unittest.TestCase):
    def test_it_is_a_walk(self):
        self.assertTrue(issubclass(ShortWalk, Walk))
        self.assertIsInstance(made(most=1), Walk)
        self.assertNotIsInstance(made(), ShortWalk)

    def test_every_limit(self):
        for most in (*range(19), 10 ** 30):
            for word, sign in (("on", 1), ("back", -1)):
                walk = made(SQUARE, (1, 1), (2, 1), most)
                for k in range(min(most, 20)):
                    self.assertIsNone(getattr(walk, word)())
                    self.assertEqual(walk.place, sign * (k + 1))
                if most < 20:
                    for _ in range(2):
                        before = state(walk)
                        with self.assertRaises(TooFar) as caught:
                            getattr(walk, word)()
                        self.assertEqual(caught.exception.value, sign * (most + 1))
                        self.assertEqual(state(walk), before)

    def test_no_step_at_all(self):
        walk = made(most=0)
        for word, place in (("on", 1), ("back", -1), ("on", 1)):
            with self.assertRaises(TooFar) as caught:
                getattr(walk, word)()
            self.assertEqual(caught.exception.value, place)
            self.assertEqual(state(walk), (0, ((1, 1), (2, 1)), [], 0))
        with self.assertRaises(NothingToUndo):
            walk.undo()

    def test_there_and_back_again(self):
        walk = made(FREE, (0, 1), (1, 1), 1, ["on", "back", "back", "on", "on"])
        self.assertEqual(state(walk), (1, ((1, 1), (-1, 1)), ["on", "back", "back", "on", "on"], 5))
        for place in (0, -1, 0, 1, 0):
            walk.undo()
            self.assertEqual(walk.place, place)


class WalkEqualityTest(unittest.TestCase):
    def check(self, one, other, wanted):
        self.assertIs(one == other, wanted)
        self.assertIs(other == one, wanted)
        self.assertIs(one != other, not wanted)

    def test_by_relation(self):
        for most in (None, 5):
            one = made(SQUARE, most=most)
            self.check(one, one, True)
            self.check(one, made(SQUARE, most=most), True)
            for factor in (-1, 4, -10 ** 7):
                self.check(one, made([factor * x for x in SQUARE], most=most), True)
            # Both relations have the pair of 1 and 2.
            self.check(one, made([0, 1, 1, -9, 2, 1], most=most), False)

    def test_by_the_first_two_points(self):
        for most in (None, 5):
            one = made(most=most)
            self.check(one, made(first=(2, 1), second=(1, 1), most=most), False)
            self.check(one, made(second=(1, 2), most=most), False)
            # The same pair at last, but after another start.
            on = made(most=most, calls=["on"])
            turned = made(first=(2, 1), second=(1, 1), most=most)
            self.assertEqual(on.pair, turned.pair)
            self.check(on, turned, False)

    def test_points_of_which_only_one_is_the_same(self):
        start = made(FIVE, (1, 1), (1, 1))
        self.check(start, made(FIVE, (1, 1), (2, 1)), False)
        self.check(start, made(FIVE, (2, 1), (1, 1)), False)
        self.check(start, made(FIVE, (1, 1), (1, 1)), True)

    def test_by_story(self):
        stories = [(), ("on",), ("back",), ("on", "on"), ("on", "back"), ("back", "on"), ("back",) * 4, ("on",) * 4]
        for most in (None, 5):
            for one, other in product(stories, repeat=2):
                self.check(made(most=most, calls=one), made(most=most, calls=other), one == other)
        # Around a chain that closes after four steps.
        self.assertEqual(made(calls=["on"] * 4).pair, made().pair)

    def test_what_is_taken_back_does_not_count(self):
        self.check(made(calls=["on", "undo"]), made(), True)
        self.check(made(calls=["on", "back", "undo", "undo", "back"]), made(calls=["back"]), True)
        one = made(most=1, calls=["on"])
        with self.assertRaises(TooFar):
            one.on()
        self.check(one, made(most=1, calls=["on"]), True)

    def test_by_limit(self):
        for one, other in product([None, 0, 1, 9, 10 ** 30], repeat=2):
            self.check(made(most=one), made(most=other), one == other)

    def test_other_things(self):
        class Same(list):
            def __eq__(self, other):
                return False

        for most in (None, 2):
            walk = made(most=most)
            for other in [None, 0, True, "walk", [], ["on"], (), {}, ((1, 1), (2, 1)), Relation(SQUARE),
                          Walk, ShortWalk, Same(), object(), (walk,), [walk]]:
                self.check(walk, other, False)

    def test_things_that_are_equal_to_all(self):
        class All:
            _relation, _start, _story, _most = Relation(SQUARE), ((1, 1), (2, 1)), [], None

            def __eq__(self, other):
                return True

        self.assertIs(made() == All(), False)
        self.assertIs(made() != All(), True)


class ConstructorErrorTest(unittest.TestCase):
    def check(self, first, second, kind, value, mosts=(0, 3, -1, -10 ** 30)):
        relation = Relation(SQUARE)
        calls = [lambda most=most: ShortWalk(relation, first, second, most) for most in mosts]
        calls.append(lambda: Walk(relation, first, second))
        for call in calls:
            with self.assertRaises(kind) as caught:
                call()
            self.assertIs(type(caught.exception), kind)
            self.assertEqual(caught.exception.value, value)
        self.assertEqual(relation.numbers, SQUARE)

    def test_wrong_points(self):
        for wrong in WRONG + [(2, 2)]:
            for other in [(1, 1), (2, 1), (1, 0), (0, 1)]:
                self.check(wrong, other, InvalidPoint, wrong)
                self.check(other, wrong, InvalidPoint, wrong)
        for first, second in product(WRONG, repeat=2):
            self.check(first, second, InvalidPoint, first)

    def test_no_pairs(self):
        for first, second in [((1, 1), (1, 1)), ((1, 0), (1, 0)), ((1, 0), (0, 1)), ((1, 1), (1, 3))]:
            self.check(first, second, NotPair, (first, second))

    def test_a_negative_limit(self):
        for most in (-1, -2, -16, -10 ** 30):
            for numbers, first, second in STARTS[:5]:
                with self.assertRaises(InvalidNumber) as caught:
                    ShortWalk(Relation(numbers), first, second, most)
                self.assertEqual(caught.exception.value, most)
