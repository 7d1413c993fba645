"""Relations of degree two between two points, the same read either way."""

from math import isqrt

from closechains.errors import Bent, InvalidNumber, NotPair
from closechains.points import ENDLESS, check_point, lowest, sorted_points, without_divisor


class Relation:
    """A relation that is not bent, by a list of its six numbers; it never changes."""

    def __init__(self, numbers):
        if len(numbers) != 6:
            raise InvalidNumber(len(numbers))
        if bend(quartic_of(numbers)) == 0:
            raise Bent(0)
        self._numbers = tuple(without_divisor(numbers))

    @property
    def numbers(self):
        """The six numbers without a common divisor."""
        return list(self._numbers)

    def __eq__(self, other):
        return isinstance(other, Relation) and self._numbers == other._numbers


def quartic_of(numbers):
    """Return D4 to D0 of six numbers, which may be those of a bent relation."""
    a, b, c, d, e, f = numbers
    return [
        b * b - 4 * a * c,
        2 * b * d - 4 * a * e - 4 * b * c,
        d * d - 2 * b * e - 4 * a * f - 4 * c * c,
        2 * d * e - 4 * b * f - 4 * c * e,
        e * e - 4 * c * f,
    ]


def invariants(quartic_numbers):
    """Return I and J of D4 to D0."""
    d4, d3, d2, d1, d0 = quartic_numbers
    i = 12 * d4 * d0 - 3 * d3 * d1 + d2 * d2
    j = (72 * d4 * d2 * d0 + 9 * d3 * d2 * d1
         - 27 * d4 * d1 * d1 - 27 * d3 * d3 * d0 - 2 * d2 * d2 * d2)
    return (i, j)


def bend(quartic_numbers):
    """Return 4*I*I*I - J*J of D4 to D0: 0 for bent relations, and for them alone."""
    i, j = invariants(quartic_numbers)
    return 4 * i * i * i - j * j


def quartic(relation):
    """Return the numbers D4, D3, D2, D1, D0 of a relation, of its numbers as told."""
    return quartic_of(relation.numbers)


def partner_equation(numbers, point):
    """Return A, B, C of the equation whose roots are the partners of a point."""
    a, b, c, d, e, f = numbers
    top, bottom = point
    high, mixed, low = top * top, top * bottom, bottom * bottom
    return [
        a * high + b * mixed + c * low,
        b * high + d * mixed + e * low,
        c * high + e * mixed + f * low,
    ]


def holds(relation, first, second):
    """Tell whether two points have a relation."""
    check_point(first)
    check_point(second)
    a, b, c = partner_equation(relation.numbers, first)
    top, bottom = second
    return a * top * top + b * top * bottom + c * bottom * bottom == 0


def check_pair(relation, first, second):
    """Raise an error unless two tuples are points that have a relation."""
    if not holds(relation, first, second):
        raise NotPair((first, second))


def partners(relation, point):
    """Return the ascending list of the partners of a point that are points."""
    check_point(point)
    a, b, c = partner_equation(relation.numbers, point)
    return _rational_roots(a, b, c)


def _rational_roots(a, b, c):
    # Not all three are 0: their common root would be a double root of D.
    if a == 0:
        return _each_once([lowest(-c, b), ENDLESS])
    square = b * b - 4 * a * c
    if square < 0:
        return []
    root = isqrt(square)
    if root * root != square:
        return []
    return _each_once([lowest(-b - root, 2 * a), lowest(root - b, 2 * a)])


def _each_once(two_points):
    one, other = two_points
    if one == other:
        return [one]
    return sorted_points(two_points)
