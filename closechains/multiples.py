"""The steps of a relation as multiples of one point of a cubic curve.

With I and J of D, a step of the relation adds a fixed point T of the cubic curve
3*Y*Y = X*X*X - 3*I*X - J, and k steps add k*T, whatever the chain begins with. So the
chains close after n steps if n*T is the zero of the curve, the point endlessly far up.
"""

from closechains.chains import chain
from closechains.points import ENDLESS
from closechains.relations import Relation, invariants, quartic

# By Mazur's theorem one of the multiples up to this one is zero, or none is but 0*T.
MOST_STEPS = 12


def multiples(relation):
    """Return the list of the X of 0*T to 12*T, as points; that of zero is endless."""
    i, j = invariants(quartic(relation))
    x = _step(relation.numbers)
    # The X of P - T and of P + T are the partners of that of P by this relation, so
    # the multiples are a chain themselves. It is not bent: 2*T is not zero.
    adding = Relation([1, -2 * x, x * x, 6 * i - 2 * x * x,
                       6 * i * x + 4 * j, 9 * i * i + 4 * j * x])
    return chain(adding, ENDLESS, (x, 1), MOST_STEPS + 1)


def _step(numbers):
    # The X of T, which is an integer.
    a, b, c, d, e, f = numbers
    return (d - 2 * c) * (d - 10 * c) + 4 * (b * e - a * f)
