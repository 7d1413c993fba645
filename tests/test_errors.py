"""Promise [3]: the exception classes and what they keep."""

import unittest

from closechains import errors

NAMES = ["InvalidNumber", "InvalidPoint", "Bent", "NotPair", "NotOne", "InvalidPrime",
         "TooFar", "NothingToUndo", "Unreadable"]


class Odd:
    """An object with no text and no truth, equal to nothing."""

    def __eq__(self, other):
        raise RuntimeError("not to be compared")

    def __bool__(self):
        raise RuntimeError("not to be tested")

    def __str__(self):
        raise RuntimeError("not to be shown")

    __repr__ = __str__
    __hash__ = None


def nested(depth):
    value = []
    for _ in range(depth):
        value = [value]
    return value


VALUES = [0, -7, 10 ** 30, "", "text", None, True, False, [], [1, [2]], (), (1, 0), ("a", None),
          {"a": 1}, b"x", object(), Odd(), int, len, ValueError("x"), nested(40)]


class ErrorsTest(unittest.TestCase):
    def every_class(self):
        return [errors.ChainError] + [getattr(errors, name) for name in NAMES]

    def test_value_by_position_and_by_name(self):
        for kind in self.every_class():
            for value in VALUES:
                self.assertIs(kind(value).value, value)
                self.assertIs(kind(value=value).value, value)

    def test_value_is_set_on_the_object(self):
        for kind in self.every_class():
            self.assertEqual(vars(kind(5)), {"value": 5})

    def test_exactly_one_argument(self):
        for kind in self.every_class():
            with self.assertRaises(TypeError):
                kind()
            with self.assertRaises(TypeError):
                kind(1, 2)
            with self.assertRaises(TypeError):
                kind(number=1)

    def test_bases(self):
        self.assertEqual(errors.ChainError.__bases__, (ValueError,))
        for name in NAMES:
            self.assertEqual(getattr(errors, name).__bases__, (errors.ChainError,))

    def test_no_other_class_is_below_another(self):
        kinds = [getattr(errors, name) for name in NAMES]
        for kind in kinds:
            below = [other for other in kinds if issubclass(other, kind)]
            self.assertEqual(below, [kind])
        self.assertEqual(len(set(kinds)), 9)

    def test_raised_and_caught_as_each_base(self):
        for kind in self.every_class():
            for base in (kind, errors.ChainError, ValueError):
                with self.assertRaises(base) as caught:
                    raise kind((2, 4))
                self.assertEqual(caught.exception.value, (2, 4))
