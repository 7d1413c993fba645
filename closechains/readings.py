"""Relations and points read from their texts."""

from closechains.errors import Bent, Unreadable
from closechains.points import ENDLESS, is_point
from closechains.relations import Relation
from closechains.texts import ENDLESS_TEXT, show_point, show_relation

MOST_DIGITS = 40


def read_relation(text):
    """Return the relation with a text."""
    numbers = _integers(text.split(" "))
    if len(numbers) != 6:
        raise Unreadable(text)
    try:
        relation = Relation(numbers)
    except Bent:
        raise Unreadable(text) from None
    # Numbers with a common divisor, or written in another way, are shown unlike.
    if show_relation(relation) != text:
        raise Unreadable(text)
    return relation


def read_point(text):
    """Return the point with a text."""
    if text == ENDLESS_TEXT:
        return ENDLESS
    numbers = _integers(text.split("/"))
    if len(numbers) == 1:
        numbers.append(1)
    point = tuple(numbers)
    if not is_point(point) or show_point(point) != text:
        raise Unreadable(text)
    return point


def _integers(words):
    # None at all if one of the words is none; leading zeros are left to the caller.
    if not all([_is_number(word) for word in words]):
        return []
    return [int(word) for word in words]


def _is_number(word):
    digits = word.removeprefix("-")
    return digits.isascii() and digits.isdigit() and len(digits) <= MOST_DIGITS
