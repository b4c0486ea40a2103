"""The errors that the program raises."""


class PlayError(ValueError):
    """The base class of all errors that the program raises."""


class BadValue(PlayError):
    """A value that is not of the kind, or not within the bounds, that is asked for."""


class BadText(PlayError):
    """A text that does not tell what it should tell."""


class Unknown(PlayError):
    """A number that is not the number of a game of the yard."""


class NoMove(PlayError):
    """A step or move that is not allowed."""
