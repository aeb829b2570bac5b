"""The refusals of the program: one class for each, all straight under MillError."""


class MillError(ValueError):
    """Any refusal."""


class NoMachine(MillError):
    """What was handed in is no machine."""


class NoText(MillError):
    """A text is not that of a machine or a setup."""


class NoName(MillError):
    """A text is no name of a book."""


class Twice(MillError):
    """A book has a machine of this name already."""


class Full(MillError):
    """A book takes no more machines."""


class NoSuch(MillError):
    """A book has no machine of this name."""


class NoPaper(MillError):
    """The looker doesn't let a paper by."""


class NoDeed(MillError):
    """There is no deed to take back or to do again."""


class NoSize(MillError):
    """A size is none, or too great for what is asked."""


class NoWidth(MillError):
    """A width is none for the words of a machine."""


class NoLine(MillError):
    """A line is none that a desk takes."""
