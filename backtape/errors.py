"""The refusals, each a class of its own below TapeError."""


class TapeError(ValueError):
    """Any refusal."""


class NoMoment(TapeError):
    """A moment that a run does not have."""


class NoRun(TapeError):
    """A number that no run has."""


class NoThing(TapeError):
    """What is neither a name nor a cell's number."""


class NoText(TapeError):
    """A text that is the writing of nothing."""
