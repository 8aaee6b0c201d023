"""A checker of charts: it only holds numbers side by side and seeks no way."""

from wagoncalls.errors import NoPaper
from wagoncalls.ways import drives_of, is_least, is_steep
from wagoncalls.words import is_whole


def lets_chart(town, shut, thing):
    """True of the chart; NoPaper of anything else, with what is wrong first."""
    if not _has_shape(thing, len(town[0])):
        raise NoPaper("shape", 0)
    for goal, row in enumerate(thing):
        if row[goal] != 0:
            raise NoPaper("goal", goal)
    drives = drives_of(town, shut)
    for drive in drives:
        if any(is_steep(row, drive) for row in thing):
            raise NoPaper("steep", drive[0])
    for place in range(len(thing)):
        if _is_slack(drives, thing, place):
            raise NoPaper("slack", place)
    return True


def _has_shape(thing, many):
    if not isinstance(thing, tuple) or len(thing) != many:
        return False
    return all(_is_row(row, many) for row in thing)


def _is_row(thing, many):
    if not isinstance(thing, tuple) or len(thing) != many:
        return False
    return all(minutes is None or is_whole(minutes) and minutes >= 0 for minutes in thing)


def _is_slack(drives, chart, place):
    """Whether a row not the place's own has a number for it to which no drive leads."""
    drives_from = [drive for drive in drives if drive[1] == place]
    for goal, row in enumerate(chart):
        if goal != place and row[place] is not None and not _leads_on(row, drives_from):
            return True
    return False


def _leads_on(row, drives):
    return any(is_least(row, drive) for drive in drives)
