"""The errors that the package raises: all of them stand directly under UnevenError."""


class UnevenError(ValueError):
    """What all errors of the package have in common."""


class BadWeb(UnevenError):
    """A value is no web; error is what web_error tells."""

    def __init__(self, error):
        self.error = error


class BadStanding(UnevenError):
    """A value is no standing of its web; error is what standing_error tells."""

    def __init__(self, error):
        self.error = error


class BadText(UnevenError):
    """A value is not the text that it should be."""


class Unfit(UnevenError):
    """What is asked for does not exist for these arguments."""


class NotJoined(UnevenError):
    """No way leads from one standing to the other; paper shows why."""

    def __init__(self, paper):
        self.paper = paper


class TooMany(UnevenError):
    """There is more to go through than limit."""

    def __init__(self, limit):
        self.limit = limit


class NoName(UnevenError):
    """given is none of the names."""

    def __init__(self, given):
        self.given = given


class Taken(UnevenError):
    """given is one of the names already."""

    def __init__(self, given):
        self.given = given


class BadBatch(UnevenError):
    """A value is no batch of edits."""


class Rejected(UnevenError):
    """An edit of a batch raised an error; place is its place in the batch."""

    def __init__(self, place):
        self.place = place


class TooManyEdits(UnevenError):
    """As many edits stand as may stand."""


class NothingToUndo(UnevenError):
    """No edit stands."""


class NothingToRedo(UnevenError):
    """No edit was taken back."""


class NoVersion(UnevenError):
    """given is none of the versions."""

    def __init__(self, given):
        self.given = given


class BadLog(UnevenError):
    """A line or an edit of a log is wrong; place is its place in the log."""

    def __init__(self, place):
        self.place = place
