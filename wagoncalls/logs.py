"""Tellings and logs written as texts, and read back; logs put together."""

from wagoncalls.errors import NoText
from wagoncalls.tellings import PARTS, as_it_goes, each_once, is_telling
from wagoncalls.words import LAST_GRADE, moment_by, moment_text, number_by


def telling_text(telling):
    """The text of a telling."""
    return " ".join([str(part) for part in telling])


def telling_by(town, text):
    """The telling of a town that a text is; NoText of anything else."""
    if not isinstance(text, str):
        raise NoText(0)
    telling = _parts_by(town, text.split(" "))
    if not is_telling(town, telling):
        raise NoText(0)
    return telling


def log_text(log):
    """The text of a log."""
    return "\n".join([f"{moment_text(moment)} {telling_text(telling)}" for moment, telling in log_in_order(log)])


def log_by(town, text):
    """The log of a town that a text is, sorted, each tuple once; NoText of anything else."""
    if not isinstance(text, str):
        raise NoText(0)
    # The text without signs has a row, but stands for the log without tellings.
    rows = text.split("\n") if text else []
    log = []
    for at, row in enumerate(rows):
        told = log_row_by(town, row)
        if told is None:
            raise NoText(at)
        log.append(told)
    return log_in_order(log)


def log_row_by(town, row):
    """The tuple (moment, telling) that a row is, None of any other text."""
    moment, _, telling = row.partition(" ")
    try:
        return moment_by(moment), telling_by(town, telling)
    except NoText:
        return None


def together(log, other):
    """All tuples that are in one of two logs, sorted, each once."""
    return log_in_order([*log, *other])


def log_in_order(log):
    """The tuples of a log, sorted by moments, those of one moment as tellings go, each once."""
    return each_once(sorted(log, key=_as_it_goes))


def _as_it_goes(row):
    moment, telling = row
    return moment, as_it_goes(telling)


def _parts_by(town, words):
    """A telling's parts by its words; what isn't written as a number should be is None, and so no part of any."""
    kinds = PARTS.get(words[0], ())
    if len(words) != 1 + len(kinds):
        return None
    return (words[0],) + tuple([_part_by(town, kind, word) for kind, word in zip(kinds, words[1:])])


def _part_by(town, kind, word):
    if kind == "road":
        return number_by(word, len(town[1]))
    if kind == "grade":
        return number_by(word, LAST_GRADE)
    return word
