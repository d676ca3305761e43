"""The refusals: each kind is a class of its own, straight under FallError."""


class FallError(ValueError):
    """Any refusal."""


class NoPast(FallError):
    """What was handed in as a past is none."""


class NoLetter(FallError):
    """What was handed in is no letter that would do here."""


class NoHands(FallError):
    """What was handed in is no list of hands that would do here."""


class NoHand(FallError):
    """What was handed in is no hand that would do here."""


class Alike(FallError):
    """A hand would tell itself a letter."""


class NoPoint(FallError):
    """What was handed in is no point that would do here."""


class NoPoints(FallError):
    """What was handed in is no dict of points of the past."""


class NoLine(FallError):
    """What was handed in is no line."""


class TooMany(FallError):
    """More would have to be told than is told at once."""


class NoPart(FallError):
    """What was handed in is no part of the past."""


class NoText(FallError):
    """What was handed in is no writing of what was to be read."""


class NoRow(FallError):
    """What was handed in is no row of words that a desk takes."""


class NoNet(FallError):
    """The desk has no net yet."""
