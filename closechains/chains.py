"""Chains of a relation: each further point is the other partner of the last one."""

from closechains.errors import InvalidNumber
from closechains.points import lowest
from closechains.relations import check_pair, partner_equation


def following(relation, first, second):
    """Return the member 2 of the chain that begins with two points."""
    check_pair(relation, first, second)
    return _other_partner(relation.numbers, second, first)


def chain(relation, first, second, length):
    """Return the list of so many members, from 0 on, of a chain."""
    check_pair(relation, first, second)
    if length < 0:
        raise InvalidNumber(length)
    return _members(relation.numbers, first, second, length)


def member(relation, first, second, index):
    """Return the member of a chain with an index, which may be negative."""
    check_pair(relation, first, second)
    if index < 0:
        # The chain read the other way about has member 1 as its member 0.
        return _members(relation.numbers, second, first, 2 - index)[-1]
    return _members(relation.numbers, first, second, index + 1)[-1]


def _members(numbers, first, second, length):
    found = [first, second]
    while len(found) < length:
        found.append(_other_partner(numbers, found[-1], found[-2]))
    return found[:length]


def _other_partner(numbers, point, known):
    top, bottom = other_root(numbers, point, known)
    return lowest(top, bottom)


def other_root(numbers, point, known):
    """Return top and bottom of the other partner of a point than a known one, not yet lowest."""
    # By the sum and the product of the roots no square root is needed, and a double
    # root is told again. The two are never both 0, as A, B and C are never all 0.
    a, b, c = partner_equation(numbers, point)
    top, bottom = known
    if bottom == 0:
        return (-c, b)
    return (-b * bottom - a * top, a * bottom)
