"""The refusals of Quotehall."""


class HallError(ValueError):
    """Any refusal."""


class NoName(HallError):
    """A name that means nothing."""


class WrongLevel(HallError):
    """What stands at a level where it may not stand, or run where it may not."""


class WrongKind(HallError):
    """A term of another kind than the one that is wanted."""


class TooGreat(HallError):
    """A quote that would make too large or too deep a piece."""
