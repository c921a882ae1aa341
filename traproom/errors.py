"""The errors that the modules of the package raise."""


class TraproomError(ValueError):
    """The base class of all errors of the package."""


class ByZero(TraproomError):
    """A division by 0, or a fraction with the denominator 0."""


class BadMove(TraproomError):
    """A value that is no move."""


class BadSheet(TraproomError):
    """A value that is no sheet of cues."""


class BadShow(TraproomError):
    """A value that is no show."""


class BadFault(TraproomError):
    """A value that is no fault for a show."""


class BadCall(TraproomError):
    """A call of a cue, or a question about a run, that the run does not allow."""
