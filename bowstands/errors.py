"""The errors of the package: each one directly under BowError."""


class BowError(ValueError):
    """What all errors of the package have in common."""


class Unfit(BowError):
    """What was asked for cannot be done with what was handed in."""

    def __init__(self):
        BowError.__init__(self, "this cannot be done here")


class BadManners(BowError):
    """What was told are no manners."""

    def __init__(self, error):
        BowError.__init__(self, f"no manners: {error!r}")
        self.error = error


class BadRun(BowError):
    """A hand of a run cannot make its step."""

    def __init__(self, place):
        BowError.__init__(self, f"no step can be made at the place {place!r} of the run")
        self.place = place


class BadText(BowError):
    """A text tells nothing of its kind."""

    def __init__(self, place):
        BowError.__init__(self, f"the text is wrong at {place!r}")
        self.place = place


class BadLog(BowError):
    """An edit of a log cannot be done."""

    def __init__(self, place):
        BowError.__init__(self, f"the log is wrong at {place!r}")
        self.place = place


class Refused(BowError):
    """A room does not take an edit."""

    def __init__(self, word):
        BowError.__init__(self, f"refused: {word!r}")
        self.word = word


class TooMany(BowError):
    """There is more of something than the package goes through."""

    def __init__(self, limit):
        BowError.__init__(self, f"more than {limit!r}")
        self.limit = limit


class NothingToUndo(BowError):
    """No edit stands that could be taken back."""

    def __init__(self):
        BowError.__init__(self, "no edit stands")
