"""The errors of the package. Each keeps in `value` what was wrong."""


class ChainError(ValueError):
    """The error from which all others of the package derive."""

    def __init__(self, value):
        self.value = value


class InvalidNumber(ChainError):
    """A number that cannot be taken here."""


class InvalidPoint(ChainError):
    """Something that is no point."""


class Bent(ChainError):
    """The six numbers are those of a bent relation."""


class NotPair(ChainError):
    """Two points that do not have the relation."""


class NotOne(ChainError):
    """The pairs do not have exactly one relation."""


class InvalidPrime(ChainError):
    """A number that is no prime modulo which one can calculate here."""


class TooFar(ChainError):
    """A place to which a walk does not go."""


class NothingToUndo(ChainError):
    """There is no step to take back."""


class Unreadable(ChainError):
    """A text that tells nothing."""
