"""The refusals: each one a class straight under TurnError."""


class TurnError(ValueError):
    """What all refusals have in common."""


class NoOrder(TurnError):
    """What was handed in is no order."""


class NoNumber(TurnError):
    """What was handed in is no whole number, or none that may stand there."""


class NoRow(TurnError):
    """What was handed in is no row of unlike whole numbers."""


class NotUpDown(TurnError):
    """What was handed in is no up-down."""


class NoPattern(TurnError):
    """What was handed in is no pattern."""


class NoTree(TurnError):
    """What was handed in is no tree."""


class NoLoose(TurnError):
    """What was handed in is no loose tree."""


class NoRing(TurnError):
    """What was handed in is no ring."""


class NoFraction(TurnError):
    """What was handed in is no fraction."""


class NoText(TurnError):
    """What was handed in is not written as it is due."""


class NoDeed(TurnError):
    """There is no such deed to be done or undone."""


class NoLine(TurnError):
    """What was told to a desk is no row that it knows."""
