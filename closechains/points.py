"""Points: fractions as tuples (top, bottom), and the endless point (1, 0)."""

from math import gcd

from closechains.errors import InvalidNumber, InvalidPoint

ENDLESS = (1, 0)


def is_point(value):
    """Tell whether any value is a point."""
    if not isinstance(value, tuple) or len(value) != 2:
        return False
    top, bottom = value
    if not _is_whole(top) or not _is_whole(bottom):
        return False
    if bottom == 0:
        return top == 1
    return bottom > 0 and gcd(top, bottom) == 1


def _is_whole(value):
    # True and False are of the class int, but they are no integers here.
    return isinstance(value, int) and not isinstance(value, bool)


def check_point(point):
    """Raise InvalidPoint if a tuple of two integers is no point."""
    if not is_point(point):
        raise InvalidPoint(point)


def lowest(top, bottom):
    """Return the point that is the quotient of two integers."""
    if top == 0 and bottom == 0:
        raise InvalidNumber(0)
    if bottom == 0:
        return ENDLESS
    divisor = gcd(top, bottom)
    if bottom < 0:
        divisor = -divisor
    return (top // divisor, bottom // divisor)


def sorted_points(points):
    """Return the ascending list of a list of points; equal ones stay."""
    for point in points:
        check_point(point)
    greatest = max([bottom for _, bottom in points], default=1)
    # Unlike fractions with bottoms up to g are at least 1 / (g * g) apart, so that
    # times g * g they are unlike, and in the same order, when rounded down, too.
    scale = greatest * greatest
    return sorted(points, key=lambda point: _rank(point, scale))


def _rank(point, scale):
    top, bottom = point
    # The first number of a rank puts the endless point behind all fractions.
    if bottom == 0:
        return (1, 0)
    return (0, top * scale // bottom)


def without_divisor(numbers):
    """Return integers without a common divisor, the first that is not 0 above 0."""
    counting = [number for number in numbers if number != 0]
    if not counting:
        return list(numbers)
    divisor = 0
    for number in counting:
        divisor = gcd(divisor, number)
    if counting[0] < 0:
        divisor = -divisor
    return [number // divisor for number in numbers]
