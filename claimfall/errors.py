"""The errors that claimfall raises."""


class ClaimError(ValueError):
    """The parent of all errors of claimfall."""


class BadProgram(ClaimError):
    """A thing is no program; function is the index of the wrong function or open, or -1 for the whole."""

    def __init__(self, function, reason):
        super().__init__(f"{reason} at {function}")
        self.function = function
        self.reason = reason


class BadText(ClaimError):
    """A text is not the text of a program; line is the number of its first wrong line, from 1."""

    def __init__(self, line, reason):
        super().__init__(f"{reason} in line {line}")
        self.line = line
        self.reason = reason


class BadEntry(ClaimError):
    """A thing is no call of a program; place is the index of its first wrong item."""

    def __init__(self, place):
        super().__init__(f"wrong item at {place}")
        self.place = place


class BadState(ClaimError):
    """What was asked for cannot be done as things stand."""


class TooGreat(ClaimError):
    """There is more to look through than is looked through."""
