"""Pairs and chains modulo a prime, whose points are residues, the endless one the prime itself."""

from closechains.chains import other_root
from closechains.errors import InvalidPoint, InvalidPrime, NotPair
from closechains.points import ENDLESS, check_point
from closechains.relations import bend, partner_equation, quartic_of

LEAST_PRIME = 5
GREATEST_NUMBER = 200


def reduced(point, prime):
    """Return the residue of a point modulo a prime, the prime itself for an endless one."""
    check_point(point)
    if not _is_prime(prime):
        raise InvalidPrime(prime)
    top, bottom = point
    return _residue(top, bottom, prime)


def pairs_modulo(relation, prime):
    """Return the ascending list of all pairs of residues that have a relation."""
    return _pairs(_checked_numbers(relation, prime), prime)


def rounds_modulo(relation, prime):
    """Return the tuple of the steps after which chains modulo a prime close, and of the rounds."""
    numbers = _checked_numbers(relation, prime)
    pairs = _pairs(numbers, prime)
    # There always is a first one: by Hasse's theorem pairs are p + 1 - 2 * root of p or more.
    length = len(_members_of_round(numbers, prime, pairs[0]))
    return (length, len(pairs) // length)


def member_modulo(relation, prime, first, second, index):
    """Return the member with an index of the chain modulo a prime that begins with two residues."""
    numbers = _checked_numbers(relation, prime)
    _check_residue(first, prime)
    _check_residue(second, prime)
    if not _is_root(_equation(numbers, first, prime), second, prime):
        raise NotPair((first, second))
    members = _members_of_round(numbers, prime, (first, second))
    return members[index % len(members)]


def _is_prime(number):
    if number < LEAST_PRIME or number > GREATEST_NUMBER:
        return False
    return all([number % divisor != 0 for divisor in range(2, number)])


def _checked_numbers(relation, prime):
    # The prime check; what is left of great numbers is enough for all that follows.
    if not _is_prime(prime):
        raise InvalidPrime(prime)
    numbers = [number % prime for number in relation.numbers]
    if bend(quartic_of(numbers)) % prime == 0:
        raise InvalidPrime(prime)
    return numbers


def _check_residue(residue, prime):
    if residue < 0 or residue > prime:
        raise InvalidPoint(residue)


def _pairs(numbers, prime):
    found = []
    for first in range(prime + 1):
        equation = _equation(numbers, first, prime)
        found.extend([(first, second) for second in range(prime + 1) if _is_root(equation, second, prime)])
    return found


def _members_of_round(numbers, prime, start):
    # Each pair is followed by one and follows on one, so that a walk comes back to its start.
    found = []
    pair = start
    while not found or pair != start:
        first, second = pair
        found.append(first)
        pair = (second, _other_partner(numbers, prime, second, first))
    return found


def _other_partner(numbers, prime, residue, known):
    top, bottom = other_root(numbers, _as_point(residue, prime), _as_point(known, prime))
    return _residue(top, bottom, prime)


def _equation(numbers, residue, prime):
    return partner_equation(numbers, _as_point(residue, prime))


def _is_root(equation, residue, prime):
    a, b, c = equation
    top, bottom = _as_point(residue, prime)
    return (a * top * top + b * top * bottom + c * bottom * bottom) % prime == 0


def _as_point(residue, prime):
    if residue == prime:
        return ENDLESS
    return (residue, 1)


def _residue(top, bottom, prime):
    if bottom % prime == 0:
        return prime
    return top * _inverse(bottom, prime) % prime


def _inverse(number, prime):
    # By Fermat's theorem the power with the exponent p - 1 is 1.
    power = 1
    for _ in range(prime - 2):
        power = power * number % prime
    return power
