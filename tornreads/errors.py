"""The errors of the package: each lies directly under TornError, and keeps what it was made with."""


class TornError(ValueError):
    """Any error of this package."""


class Unfit(TornError):
    """What was handed in has no answer to what is asked."""


class BadText(TornError):
    """A text that cannot be read: place tells where it goes wrong."""

    def __init__(self, place):
        self.place = place


class BadCounter(TornError):
    """What should be a counter is none: error is what counter_error tells of it."""

    def __init__(self, error):
        self.error = error


class NoRun(TornError):
    """No run reads so: place is that of the first read to which none comes."""

    def __init__(self, place):
        self.place = place


class TooMany(TornError):
    """More would be needed than limit."""

    def __init__(self, limit):
        self.limit = limit


class NothingToUndo(TornError):
    """There is no edit to take back, or to do again."""


class TooManyEdits(TornError):
    """As many edits stand as may."""


class BadLog(TornError):
    """Edits that cannot be done: place is that of the first of them."""

    def __init__(self, place):
        self.place = place
