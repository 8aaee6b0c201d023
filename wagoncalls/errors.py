"""The refusals: each stands straight under WagonError, none under another one."""

# What was handed in is kept as a field only: written into a message, a number
# of very many figures would raise an error of Python's own.


class WagonError(ValueError):
    """What all refusals are."""


class NoText(WagonError):
    """A text that says no such thing; row is the first row that is at fault."""

    def __init__(self, row):
        WagonError.__init__(self, "no such text")
        self.row = row


class NoPaper(WagonError):
    """A paper that isn't let by; word tells what is wrong, at where."""

    def __init__(self, word, at):
        WagonError.__init__(self, "no such paper")
        self.word = word
        self.at = at


class NoCall(WagonError):
    """No call of this name is open."""

    def __init__(self, name):
        WagonError.__init__(self, "no such call")
        self.name = name


class NoTown(WagonError):
    """What is no town."""


class NoMoment(WagonError):
    """What is no moment, or none that may stand here."""


class NoTelling(WagonError):
    """What is no telling of the town."""


class Late(WagonError):
    """A telling for a moment that isn't later than now."""


class TooMany(WagonError):
    """One telling more than a log holds."""


class NoLog(WagonError):
    """What the log hasn't."""


class NoRow(WagonError):
    """A row that the desk doesn't know."""


class NoDeed(WagonError):
    """There is no deed to take back."""
