"""The errors of the package."""


class LaneError(ValueError):
    """The base of all errors of the package."""


class InvalidPlanError(LaneError):
    """A value is not a plan, or not one of the kind that is needed."""


class InvalidCarError(LaneError):
    """A value is not a car that is there."""


class InvalidNameError(LaneError):
    """A value is not the name of a lane."""


class InvalidNumberError(LaneError):
    """A value is not an integer in its range."""


class InvalidRowError(LaneError):
    """A value is not a row."""


class InvalidLabelsError(LaneError):
    """A value is not a list of labels."""


class InvalidShapeError(LaneError):
    """A value is not a shape."""


class InvalidRoadError(LaneError):
    """A value is not a road."""


class InvalidFormatError(LaneError):
    """A value is not the string of a plan."""


class SameNameError(LaneError):
    """A name occurs in two roads that are to be merged."""


class TooManyError(LaneError):
    """Two roads have too many lanes to be merged."""


class EmptyHistoryError(LaneError):
    """There is no call to undo."""
