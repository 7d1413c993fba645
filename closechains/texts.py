"""The texts of relations and points."""

from closechains.points import ENDLESS, check_point

ENDLESS_TEXT = "endless"


def show_relation(relation):
    """Return the six numbers of a relation, separated by single spaces."""
    return " ".join([str(number) for number in relation.numbers])


def show_point(point):
    """Return top/bottom, the top alone if the bottom is 1, endless for the endless point."""
    check_point(point)
    if point == ENDLESS:
        return ENDLESS_TEXT
    top, bottom = point
    if bottom == 1:
        return str(top)
    return f"{top}/{bottom}"
