"""The errors of the program."""


class VoteError(ValueError):
    """The base of all errors of the program."""


class BadNumber(VoteError):
    """A number out of its range, or a value that is no number."""

    def __init__(self, what, value):
        self.what = what
        self.value = value


class BadLot(VoteError):
    """A lot that may not stand at its place."""

    def __init__(self, place):
        self.place = place


class NoMeeting(VoteError):
    """A lot of reads and a lot of writes that share no copy."""

    def __init__(self, read, write):
        self.read = read
        self.write = write


class BadTrade(VoteError):
    """A pair of a trade that shows nothing."""

    def __init__(self, place, reason):
        self.place = place
        self.reason = reason


class BadFlow(VoteError):
    """A key of a flow that is no pair of it, or has a wrong value."""

    def __init__(self, lot, member):
        self.lot = lot
        self.member = member


class BadText(VoteError):
    """A line of a text that has another form."""

    def __init__(self, line):
        self.line = line


class BadDeed(VoteError):
    """A deed that could not be done."""

    def __init__(self, place):
        self.place = place


class TooMany(VoteError):
    """More copies than a call takes."""

    def __init__(self, limit):
        self.limit = limit


class Unlike(VoteError):
    """Things for different numbers of copies."""


class NothingToUndo(VoteError):
    """Fewer changes than are to be taken back."""
