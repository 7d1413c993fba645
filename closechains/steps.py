"""The relations of the members of chains that are a number of steps apart."""

from closechains.closing import closes_or_stays
from closechains.errors import InvalidNumber
from closechains.multiples import MOST_STEPS, multiples
from closechains.points import without_divisor
from closechains.relations import invariants, quartic


def step_numbers(relation, number):
    """Return the six numbers by which members so many steps apart are partners."""
    if number < 0 or number > MOST_STEPS:
        raise InvalidNumber(number)
    return without_divisor(_numbers_at(quartic(relation), multiples(relation)[number]))


def is_doubled(relation, number):
    """Tell whether the members number and -number of every chain are the same."""
    if number < 0:
        raise InvalidNumber(number)
    return closes_or_stays(relation, 2 * number)


def _numbers_at(quartic_numbers, x):
    # An X, here top by bottom, tells one relation of those whose D are the same but for
    # a factor. Between equal points it is the polynomial 4*X*D - H, with the Hessian H
    # of D; all else in it is a multiple of the square of the two points' difference.
    top, bottom = x
    mixed, low = 4 * top * bottom, bottom * bottom
    covariant = _hessian(quartic_numbers)
    q4, q3, q2, q1, q0 = [mixed * one - low * other for one, other in zip(quartic_numbers, covariant)]
    i, _ = invariants(quartic_numbers)
    rest = 2 * (top * top - i * low)
    return [6 * q4, 3 * q3, q2 - rest, 4 * q2 + 2 * rest, 3 * q1, 6 * q0]


def _hessian(quartic_numbers):
    d4, d3, d2, d1, d0 = quartic_numbers
    return [
        3 * d3 * d3 - 8 * d4 * d2,
        4 * (d3 * d2 - 6 * d4 * d1),
        2 * (2 * d2 * d2 - 24 * d4 * d0 - 3 * d3 * d1),
        4 * (d2 * d1 - 6 * d3 * d0),
        3 * d1 * d1 - 8 * d2 * d0,
    ]
