"""Walks along chains, step by step, forwards and back."""

from closechains.chains import following
from closechains.errors import InvalidNumber, NothingToUndo, TooFar
from closechains.points import lowest
from closechains.relations import check_pair


class Walk:
    """A walk along the chain that begins with two points, at first at the place 0."""

    def __init__(self, relation, first, second):
        check_pair(relation, first, second)
        self._relation = relation
        # Tuples of its own, as no argument but the relation is kept.
        self._start = (lowest(*first), lowest(*second))
        self._pair = self._start
        self._place = 0
        self._story = []
        self._most = None

    @property
    def place(self):
        """The number of the place."""
        return self._place

    @property
    def pair(self):
        """The tuple of the members place and place + 1."""
        return self._pair

    def on(self):
        """Go to the next greater place."""
        self._step_on()
        self._story.append("on")

    def back(self):
        """Go to the next lesser place."""
        self._step_back()
        self._story.append("back")

    def undo(self):
        """Take back the last call of on or back that has not been taken back yet."""
        if not self._story:
            raise NothingToUndo(0)
        if self._story.pop() == "on":
            self._step_back()
        else:
            self._step_on()

    def story(self):
        """Return the list of the calls that are not taken back."""
        return list(self._story)

    def __len__(self):
        return len(self._story)

    def __eq__(self, other):
        return (isinstance(other, Walk) and self._relation == other._relation
                and self._start == other._start and self._story == other._story
                and self._most == other._most)

    def _step_on(self):
        first, second = self._pair
        self._pair = (second, following(self._relation, first, second))
        self._place += 1

    def _step_back(self):
        first, second = self._pair
        self._pair = (following(self._relation, second, first), first)
        self._place -= 1


class ShortWalk(Walk):
    """A walk at places from -most to most."""

    def __init__(self, relation, first, second, most):
        Walk.__init__(self, relation, first, second)
        if most < 0:
            raise InvalidNumber(most)
        self._most = most

    def on(self):
        """Go to the next greater place, unless it is too far."""
        self._check_place(self._place + 1)
        super().on()

    def back(self):
        """Go to the next lesser place, unless it is too far."""
        self._check_place(self._place - 1)
        super().back()

    def _check_place(self, place):
        if place < -self._most or place > self._most:
            raise TooFar(place)
