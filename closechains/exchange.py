"""Whether the steps of two relations can be exchanged, and where such steps meet."""

from closechains.points import without_divisor
from closechains.relations import partners, quartic


def are_exchanged(relation, other):
    """Tell whether the five numbers of D of one relation are multiples of those of the other."""
    return without_divisor(quartic(relation)) == without_divisor(quartic(other))


def meetings(relation, other, first, second):
    """Return the partners of the first point by one relation and of the second by the other."""
    by_one = partners(relation, first)
    by_other = partners(other, second)
    return [point for point in by_one if point in by_other]
