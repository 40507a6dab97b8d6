"""The errors of the package."""


class SpanError(ValueError):
    """What all errors of the package are."""


class NotAllowed(SpanError):
    """An argument is not what the function allows."""


class TooLarge(SpanError):
    """What is asked for is larger than the limits allow."""


class Missing(SpanError):
    """What is asked for is not there."""


class BadPaper(SpanError):
    """A paper is not right."""


class Broken(SpanError):
    """A change would let a run of the system break the kept saying with this number."""

    def __init__(self, number, run):
        self.number = number
        self.run = run


class BadForm(SpanError):
    """A text is not of its form, at this line."""

    def __init__(self, line):
        self.line = line
