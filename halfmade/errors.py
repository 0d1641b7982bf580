"""The errors of the package: one class for each kind of refusal."""


class MadeError(ValueError):
    """Any refusal of the package."""


class NoText(MadeError):
    """What was handed in is not the text of a body."""


class NoPath(MadeError):
    """What was handed in is no path."""


class NoBody(MadeError):
    """What was handed in is no body."""


class NoFinder(MadeError):
    """What was handed in are no finders, or is the number of none."""


class NoNumber(MadeError):
    """What was handed in is no number of a module."""


class NotTaken(MadeError):
    """The table has no module at the path."""


class NoRoad(MadeError):
    """What was handed in is no road."""


class NoStock(MadeError):
    """What was handed in is no plain stock."""


class Fault(MadeError):
    """A fault in a row, or where a name is looked for."""

    def __init__(self, fault):
        super().__init__(f"fault {fault!r}")
        self.fault = fault


class Failed(MadeError):
    """A fault that came to the outside, and the road on which it came."""

    def __init__(self, fault, road):
        super().__init__(f"fault {fault!r} by the road {road!r}")
        self.fault = fault
        # A copy, since the handed list stays its owner's to change.
        self.road = list(road)
