"""The errors that the program raises."""


class RowError(ValueError):
    """The base class of all errors of the program."""


class NotWhole(RowError):
    """A row is not whole; place is the least place that shows it."""

    def __init__(self, place):
        super().__init__(f"the value at the place {place} is not whole")
        self.place = place


class NoFraction(RowError):
    """A number was to be divided by 0."""


class BadText(RowError):
    """A text is not the text of an expression."""
