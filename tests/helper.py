"""What several tests share: known relations, the sums of the document, and chains walked
without the program.

Such a chain begins with a fraction whose partners are no fractions. Its members are u + v*s,
told as (u, v), where s is the square root of a number that has none among the fractions.
"""

from fractions import Fraction
from math import gcd, isqrt

SQUARE = [1, 0, 1, -5, 0, 1]
FREE = [1, 0, 0, 2, -1, 1]
FIVE = [0, 1, 1, -9, 2, 1]

# By the number of steps after which the chains close: the six numbers and two points.
CLOSING = {
    3: [([1, -1, -2, -1, 1, 1], (1, 0), (2, 1)), ([0, 1, 0, 0, 0, -1], (1, 0), (1, 0)),
        ([1, -1, -1, 2, 1, 2], (-1, 1), (2, 1)), ([0, 2, 0, -7, 0, 2], (1, 2), (1, 1))],
    4: [(SQUARE, (1, 1), (2, 1)), ([1, 1, 1, 1, 1, -2], (-2, 1), (0, 1)),
        ([1, 0, -1, 0, 0, -1], (1, 0), (1, 1)), ([0, 1, 0, -1, -1, 0], (1, 0), (1, 0))],
    5: [(FIVE, (1, 1), (1, 1)), ([1, -2, 1, -1, 1, -4], (1, 0), (1, 1)),
        ([1, 0, 0, 0, -1, 1], (1, 0), (0, 1)), ([2, -3, -1, -1, 2, -1], (-1, 1), (1, 1))],
    6: [([2, -1, -1, -1, 1, 2], (1, 0), (1, 1)), ([0, 1, 1, 0, 1, 0], (1, 0), (1, 0)),
        ([1, 1, -1, -1, -2, 3], (-15, 1), (6, 11)), ([1, -3, 2, -1, -1, -1], (1, 0), (2, 1))],
    7: [([1, -1, -2, 3, -2, 6], (1, 0), (2, 1)), ([0, 1, -1, 1, 0, 1], (1, 0), (1, 0)),
        ([3, 1, 2, 3, 2, -4], (-2, 1), (0, 1))],
    8: [([2, -1, -1, -3, 1, 3], (1, 0), (1, 1)), ([0, 2, 0, -1, -1, -1], (1, 0), (1, 0)),
        ([1, -3, -1, 3, 3, -2], (-1, 1), (2, 1))],
    9: [([3, -1, 2, 5, -6, 4], (0, 1), (2, 1)), ([0, 1, -2, 1, 0, 2], (1, 0), (1, 0)),
        ([3, -4, -3, -6, -6, -3], (-3, 1), (1, 1))],
    10: [([1, -3, 2, 3, 6, 4], (1, 0), (2, 1)), ([0, 2, -4, 1, 2, 0], (1, 0), (1, 0)),
         ([1, 1, 0, 1, 6, 0], (1, 0), (0, 1))],
    12: [([1, -3, 6, -3, 0, -6], (-1, 1), (0, 1)), ([0, 6, 6, -3, 1, 0], (1, 0), (1, 0)),
         ([0, 6, 0, 3, -5, -5], (1, 0), (1, 0))],
}
# Relations that no two points have, with the steps after which their chains close, and the
# power of a prime modulo which D is never a square.
PAIRLESS = [
    ([1, -1, -1, -1, -1, 1], 3, 27), ([1, -1, -1, -1, -1, -1], 4, 27),
    ([1, -1, -1, 1, -1, -1], 5, 256), ([1, -1, -1, 1, -1, 1], 6, 27),
    ([1, -5, -5, -1, -3, -1], 7, 256), ([1, -1, -1, -3, -1, 1], 8, 27),
    ([1, -3, -1, -3, -3, 1], 10, 125), ([1, -1, -5, 7, 5, -5], 12, 27),
    ([2, -1, 3, -2, -2, 2], None, 125), ([1, -5, -2, 1, -4, -4], None, 49),
    ([5, -4, -3, 4, -5, -1], None, 121),
]
def great_relation(k):
    """Numbers of a relation whose chain from 1 and k goes on to 2 - 1 / k."""
    return [0, 1, 0, -k - 3, 1, k - 1]


# Relations whose chains never close, with two points.
ENDING_NEVER = [(FREE, (1, 0), (0, 1)), ([0, 1, 0, 0, 1, 1], (0, 1), (1, 0)),
                ([2, 0, 0, 3, -1, -3], (1, 1), (1, 1)),
                (great_relation(10 ** 6), (1, 1), (10 ** 6, 1))]
# Moves of the points by x -> (a*x + b) / (c*x + d).
MOVES = [(1, 1, 0, 1), (0, 1, 1, 0), (2, -1, 1, 3), (3, 0, 0, 1), (-5, 2, 7, -3)]
GREAT_MOVES = [(37, -11, 23, 31), (19, 43, -29, 7)]


def known_closing():
    """All of CLOSING, as (steps, numbers, first, second)."""
    return [(n, *row) for n, rows in CLOSING.items() for row in rows]


def told_sum(numbers, first, second):
    """The sum of promise [5], as it stands there."""
    a, b, c, d, e, f = numbers
    (p, q), (r, s) = first, second
    return (a*p*p*r*r + b*p*r*(p*s + r*q) + c*(p*p*s*s + r*r*q*q) + d*p*q*r*s
            + e*q*s*(p*s + r*q) + f*q*q*s*s)


def equation(numbers, x):
    """A, B and C of promise [5] at a fraction."""
    a, b, c, d, e, f = numbers
    return (a*x*x + b*x + c, b*x*x + d*x + e, c*x*x + e*x + f)


def primitive(numbers):
    """The same numbers without a common divisor, as promise [4] tells them."""
    divisor = gcd(*numbers)
    if next(x for x in numbers if x != 0) < 0:
        divisor = -divisor
    return [x // divisor for x in numbers]


def moved(numbers, move):
    """The numbers of the relation that x and y have if the moved x and y have the first one."""
    a, b, c, d, e, f = numbers
    form = [[a, b, c], [b, d, e], [c, e, f]]
    k, m, n, o = move
    powers = [[k*k, 2*k*m, m*m], [k*n, k*o + m*n, m*o], [n*n, 2*n*o, o*o]]
    half = [[sum(form[i][h] * powers[h][j] for h in range(3)) for j in range(3)] for i in range(3)]
    whole = [[sum(powers[h][i] * half[h][j] for h in range(3)) for j in range(3)] for i in range(3)]
    return primitive([whole[0][0], whole[0][1], whole[0][2], whole[1][1], whole[1][2], whole[2][2]])


def moved_back(point, move):
    """The point that a move brings to a point."""
    k, m, n, o = move
    top, bottom = o * point[0] - m * point[1], k * point[1] - n * point[0]
    divisor = gcd(top, bottom)
    if bottom < 0 or bottom == 0 and top < 0:
        divisor = -divisor
    return (top // divisor, bottom // divisor)


def adjugate(rows):
    """The matrix of the cofactors of a symmetric one of three rows."""
    def cofactor(i, j):
        (a, b), (c, d) = [[x for k, x in enumerate(row) if k != j] for h, row in enumerate(rows) if h != i]
        return (-1) ** (i + j) * (a * d - b * c)
    return [[cofactor(i, j) for j in range(3)] for i in range(3)]


def side_matrix(numbers):
    """Twice the quadratic form, of the A, B, C of lines, that is 0 for all sides."""
    a, b, c, d, e, f = numbers
    return [[2 * c, -e, -b], [-e, 2 * f, d - 2 * c], [-b, d - 2 * c, 2 * a]]


def relation_beside(numbers, k):
    """Numbers of another relation with the same roots of D.

    The curve that the sides touch meets the curve Y = X*X of the corners at the roots of D.
    So does the sum of the first curve and k times the second one, which other sides touch.
    """
    beside = adjugate(side_matrix(numbers))
    for (i, j), x in {(0, 0): 2, (1, 2): -1, (2, 1): -1}.items():
        beside[i][j] += k * x
    rows = adjugate(beside)
    c, e, b = rows[0][0], -2 * rows[0][1], -2 * rows[0][2]
    return primitive([rows[2][2], b, c, 2 * rows[1][2] + 2 * c, e, rows[1][1]])


def is_square(fraction):
    top, bottom = fraction.numerator, fraction.denominator
    return top >= 0 and isqrt(top) ** 2 == top and isqrt(bottom) ** 2 == bottom


class Walker:
    """Walks a chain from a start, both ways at once: member -k is member k with -s for s."""

    def __init__(self, numbers, start):
        self.numbers = numbers
        a, b, c = equation(numbers, Fraction(start))
        self.square = b * b - 4 * a * c
        self.members = [(Fraction(start), Fraction(0))]
        if a != 0:
            self.members.append((-b / (2 * a), 1 / (2 * a)))

    def can_walk(self):
        return len(self.members) > 1 and not is_square(self.square)

    def product(self, one, other):
        (a, b), (c, d) = one, other
        return (a * c + b * d * self.square, a * d + b * c)

    def quotient(self, one, other):
        c, d = other
        norm = c * c - d * d * self.square
        u, v = self.product(one, (c, -d))
        return (u / norm, v / norm)

    def member(self, k):
        """Member k; ZeroDivisionError if one on the way is the endless point."""
        a, b, c, d, e, _ = self.numbers
        while len(self.members) <= k:
            x, last = self.members[-1], self.members[-2]
            square = self.product(x, x)
            high = (a * square[0] + b * x[0] + c, a * square[1] + b * x[1])
            middle = (b * square[0] + d * x[0] + e, b * square[1] + d * x[1])
            u, v = self.quotient(middle, high)
            self.members.append((-u - last[0], -v - last[1]))
        return self.members[k]

    def fits(self, numbers, k):
        """Tell whether members k and -k are the partners of member 0 by six numbers."""
        a, b, c = equation(numbers, self.members[0][0])
        u, v = self.member(k)
        norm = u * u - v * v * self.square
        return b + 2 * u * a == 0 and c - norm * a == 0


def walkers(numbers, many, length):
    """So many walkers, each of which can walk so far."""
    found = []
    start = 2
    while len(found) < many:
        start += 1
        walker = Walker(numbers, start)
        if walker.can_walk():
            try:
                walker.member(length)
                found.append(walker)
            except ZeroDivisionError:
                pass
    return found


def walked_closing(numbers):
    """After how many steps, at most 13, a chain that is walked closes, or None."""
    walker, = walkers(numbers, 1, 14)
    for n in range(1, 14):
        if walker.member(n) == walker.member(0) and walker.member(n + 1) == walker.member(1):
            return n
    return None
