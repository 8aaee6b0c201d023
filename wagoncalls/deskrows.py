"""The rows that a desk is told."""

from wagoncalls.errors import NoRow, NoText
from wagoncalls.logs import log_row_by
from wagoncalls.words import is_name, moment_by

# Those that are one word, and those behind whose word a row of a log stands.
ALONE = ("wagons", "calls", "bare", "shut", "log", "now", "undo")
WITH_LOG_ROW = ("at", "amend", "strike")


def asked_by(town, row):
    """What a row asks for: a tuple of its first word and what its other words are; NoRow of anything else."""
    if not isinstance(row, str):
        raise NoRow("this is no text")
    if row in ALONE:
        return (row,)
    word, _, rest = row.partition(" ")
    things = _things_by(town, word, rest)
    if things is None:
        raise NoRow("this is no row of a desk")
    return (word,) + things


def _things_by(town, word, rest):
    """What the words behind the first one are, a tuple; None where the row is none."""
    if word in WITH_LOG_ROW:
        return log_row_by(town, rest)
    if word == "until":
        return _until_by(rest)
    if word == "due" and is_name(rest):
        return (rest,)
    if word == "way":
        one, _, other = rest.partition(" ")
        if one in town[0] and other in town[0]:
            return one, other
    return None


def _until_by(text):
    try:
        return (moment_by(text),)
    except NoText:
        return None
