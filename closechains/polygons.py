"""Chains as polygons: their corners lie on Y = X*X, and their sides touch another curve."""

from closechains.points import check_point, without_divisor
from closechains.relations import check_pair


def side(first, second):
    """Return the line through two corners, the tangent if they are the same."""
    check_point(first)
    check_point(second)
    return without_divisor(_line(first, second))


def touched(relation):
    """Return the six numbers of the curve that all sides touch."""
    xx, xy, xz, yy, yz, zz = _form_of_sides(relation.numbers)
    # The form of a curve is that of the cofactors of the form of the lines that touch it.
    return without_divisor([
        yy * zz - yz * yz,
        2 * (xz * yz - xy * zz),
        xx * zz - xz * xz,
        2 * (xy * yz - xz * yy),
        2 * (xy * xz - xx * yz),
        xx * yy - xy * xy,
    ])


def touching(relation, first, second):
    """Return X, Y and Z of the point at which a side touches the curve that all sides touch."""
    check_pair(relation, first, second)
    xx, xy, xz, yy, yz, zz = _form_of_sides(relation.numbers)
    a, b, c = _line(first, second)
    return without_divisor([
        xx * a + xy * b + xz * c,
        xy * a + yy * b + yz * c,
        xz * a + yz * b + zz * c,
    ])


def _line(first, second):
    p, q = first
    r, s = second
    return [p * s + r * q, -q * s, -p * r]


def _form_of_sides(numbers):
    # A, B, C of a side are x + y, -1, -x*y times a number, and the sum that is 0 for pairs
    # is a form of them of degree two. Twice that, its rows are xx xy xz, xy yy yz, xz yz zz.
    a, b, c, d, e, f = numbers
    return [2 * c, -e, -b, 2 * f, d - 2 * c, 2 * a]
