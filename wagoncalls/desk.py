"""A desk: it is told rows and answers each with a text."""

from wagoncalls.days import Day
from wagoncalls.deskrows import asked_by
from wagoncalls.desktexts import calls_text, events_text, rows_text, moment_or_none, wagons_text, way_text, words_text
from wagoncalls.errors import NoDeed
from wagoncalls.ways import way

DEEDS = ("at", "until", "amend", "strike")


class Desk:
    """The desk of a town; it keeps a day of it."""

    def __init__(self, town):
        self._day = Day(town)
        # What the day was ahead of each deed that isn't taken back.
        self._past = []

    def say(self, row):
        """The answer to a row."""
        word, *things = asked_by(self._day.town(), row)
        if word == "undo":
            return self._undo()
        if word not in DEEDS:
            return _told_of(self._day, word, things)
        past = self._day.kept()
        answer = _done(self._day, word, things)
        self._past.append(past)
        return answer

    def _undo(self):
        if not self._past:
            raise NoDeed("there is no deed to take back")
        self._day.put_back(self._past.pop())
        return "ok"


def _done(day, word, things):
    """The answer to a deed."""
    if word == "at":
        return "new" if day.tell(things[0], things[1]) else "known"
    if word == "until":
        return events_text(day.go_to(things[0]))
    if word == "amend":
        gone, come = day.amend(things[0], things[1])
    else:
        gone, come = day.strike(things[0], things[1])
    return f"{events_text(gone)} / {events_text(come)}"


def _told_of(day, word, things):
    """The answer to a question."""
    _, shut, wagons, calls, bare = day.state()
    if word == "wagons":
        return wagons_text(wagons)
    if word == "calls":
        return calls_text(calls, wagons)
    if word == "bare":
        return words_text(bare)
    if word == "shut":
        return words_text(shut)
    if word == "log":
        return rows_text(day.log())
    if word == "now":
        return moment_or_none(day.now())
    if word == "due":
        return moment_or_none(day.due(things[0]))
    return way_text(way(day.town(), shut, things[0], things[1]))
