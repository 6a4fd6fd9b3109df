"""The refusals of the program, one class for each."""


class LineError(ValueError):
    """Any refusal."""


class NoPoint(LineError):
    """Two numbers that are no point."""


class NoChange(LineError):
    """Four numbers that are no change."""


class NoThree(LineError):
    """Too few, too many or not unlike points."""


class NoTimes(LineError):
    """A change that should be done more often than is told."""


class NoNote(LineError):
    """A text that is no written point or change."""
