"""Names, moments, grades, and numbers as they are written."""

from wagoncalls.errors import NoText

LETTERS = "abcdefghijklmnopqrstuvwxyz"
FIGURES = "0123456789"
NAME_SIGNS = "abcdefghijklmnopqrstuvwxyz0123456789"
LONGEST_NAME = 8
LAST_MOMENT = 1000000
LAST_GRADE = 5
HOUR = 60


def is_whole(thing):
    """Whether a thing is a whole number; Python's own check takes truths for such, too."""
    return isinstance(thing, int) and not isinstance(thing, bool)


def is_within(thing, least, most):
    """Whether a thing is a whole number from least to most."""
    return is_whole(thing) and least <= thing <= most


def is_name(thing):
    """Whether a thing is a name."""
    if not isinstance(thing, str) or not 1 <= len(thing) <= LONGEST_NAME:
        return False
    return thing[0] in LETTERS and all(sign in NAME_SIGNS for sign in thing)


def is_moment(thing):
    """Whether a thing is a moment."""
    return is_within(thing, 0, LAST_MOMENT)


def is_grade(thing):
    """Whether a thing is a grade."""
    return is_within(thing, 1, LAST_GRADE)


def number_by(text, most):
    """The number from 0 to most that a text is, by figures without noughts ahead; else None."""
    # The length comes first: Python doesn't read numbers of thousands of figures.
    if not 1 <= len(text) <= len(str(most)):
        return None
    if not all(sign in FIGURES for sign in text):
        return None
    if text[0] == "0" and len(text) > 1:
        return None
    number = int(text)
    return number if number <= most else None


def moment_text(moment):
    """A moment as its hours and minutes; any whole number from 0 on is so written."""
    hours, minutes = divmod(moment, HOUR)
    return f"{hours}:{minutes:02d}"


def moment_by(text):
    """The moment that a text is; NoText of anything else."""
    if not isinstance(text, str):
        raise NoText(0)
    hours, _, minutes = text.partition(":")
    whole = number_by(hours, LAST_MOMENT // HOUR)
    part = _minutes_by(minutes)
    if whole is None or part is None or not is_moment(whole * HOUR + part):
        raise NoText(0)
    return whole * HOUR + part


def _minutes_by(text):
    """The number from 0 to 59 that is written by just two figures; else None."""
    if len(text) != 2 or text[0] not in FIGURES[:6] or text[1] not in FIGURES:
        return None
    return int(text)
