"""The exceptions of the program; each is created with one text."""


class RowError(ValueError):
    """The base class of all exceptions that the program raises."""


class BadMap(RowError):
    """A tuple is not a valid map."""


class BadMachine(RowError):
    """A tuple is not a valid machine."""


class OutOfRange(RowError):
    """A number, or a result, is beyond its bounds."""


class TooLong(RowError):
    """A question would take too long."""


class BadCommand(RowError):
    """A command is not one that a desk answers."""
