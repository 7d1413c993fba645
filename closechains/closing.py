"""After how many steps the chains of a relation close."""

from closechains.errors import InvalidNumber
from closechains.multiples import multiples
from closechains.points import ENDLESS


def closing(relation):
    """Return the least number of steps after which chains close, None if they never do."""
    for number, x in enumerate(multiples(relation)):
        if number > 0 and x == ENDLESS:
            return number
    return None


def closes_after(relation, number):
    """Tell whether the chains of a relation close after a number of steps."""
    if number < 1:
        raise InvalidNumber(number)
    return closes_or_stays(relation, number)


def closes_or_stays(relation, number):
    """Tell whether so many steps, perhaps none, lead from any two members to the same two."""
    if number == 0:
        return True
    least = closing(relation)
    return least is not None and number % least == 0
