"""The refusals: each stands straight under RoundError."""


class RoundError(ValueError):
    """What all refusals of this program are."""


class ByNought(RoundError):
    """Something was to be parted by nought."""


class NoRoot(RoundError):
    """There is no root of the round asked for."""


class TooMany(RoundError):
    """More is asked for than the program goes through."""


class NoText(RoundError):
    """A text, or what stands in its place, is not written as it should be."""


class NoLine(RoundError):
    """A line, or what stands in its place, is none that the desk takes."""
