"""The relations that told pairs of points have."""

from closechains.errors import NotOne
from closechains.points import check_point, without_divisor
from closechains.relations import Relation


def free_numbers(pairs):
    """Return the greatest number of independent lists of six numbers that all pairs have."""
    return len(_common_lists(pairs))


def through(pairs):
    """Return the only relation that all pairs have."""
    lists = _common_lists(pairs)
    if len(lists) != 1:
        raise NotOne(len(lists))
    return Relation(lists[0])


def _common_lists(pairs):
    # Every list of six numbers that all pairs have is a sum of multiples of these.
    for first, second in pairs:
        check_point(first)
        check_point(second)
    lists = [[int(row == column) for column in range(6)] for row in range(6)]
    for first, second in pairs:
        lists = _narrowed(lists, _terms(first, second))
    return lists


def _narrowed(lists, terms):
    # A list whose sum is not 0 is given up; by it all other sums are made 0.
    sums = [_sum_of_products(numbers, terms) for numbers in lists]
    given_up = _first_that_counts(sums)
    if given_up is None:
        return lists
    factor, numbers = sums[given_up], lists[given_up]
    return [_without(factor, lists[at], sums[at], numbers) for at in range(len(lists)) if at != given_up]


def _sum_of_products(numbers, terms):
    return sum([number * term for number, term in zip(numbers, terms)])


def _first_that_counts(sums):
    for at, one in enumerate(sums):
        if one != 0:
            return at
    return None


def _without(factor, numbers, other_factor, others):
    return without_divisor([factor * one - other_factor * other for one, other in zip(numbers, others)])


def _terms(first, second):
    # What the six numbers are multiplied by in the sum that is 0 for pairs.
    p, q = first
    r, s = second
    mixed = p * s + r * q
    return [p * p * r * r, p * r * mixed, p * p * s * s + r * r * q * q,
            p * q * r * s, q * s * mixed, q * q * s * s]
