"""The errors that this package raises on purpose."""


class DoubtError(ValueError):
    """What all errors of this package are."""


class Unfit(DoubtError):
    """An argument does not fit what it is wanted for."""


class BadProtocol(DoubtError):
    """What was given is no protocol; error tells why."""

    def __init__(self, error):
        self.error = error


class BadText(DoubtError):
    """A text is not built as told; line is the first wrong one."""

    def __init__(self, line):
        self.line = line


class BadLog(DoubtError):
    """The text of a log is not built as told; line is the first wrong one."""

    def __init__(self, line):
        self.line = line


class Refused(DoubtError):
    """This deed can't be done now."""

    def __init__(self, deed):
        self.deed = deed


class TooMany(DoubtError):
    """There are more than limit of something."""

    def __init__(self, limit):
        self.limit = limit
