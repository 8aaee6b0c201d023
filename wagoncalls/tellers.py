"""A small teller: by sheets, whoever wrote them, it tells a story and seeks nothing."""

from wagoncalls.chartchecks import lets_chart
from wagoncalls.errors import NoPaper
from wagoncalls.moments import begun
from wagoncalls.trees import covers_behind, is_plan, shows_moves
from wagoncalls.walks import events_of, state_behind, works_behind
from wagoncalls.words import is_whole


def story_by(town, log, until, thing):
    """The story that story_of tells, by sheets; NoPaper at the first one that isn't right."""
    papers = ReadPapers(town, thing)
    works = works_behind(town, begun(), log, until, papers)
    papers.end()
    return events_of(works), state_behind(works)


class ReadPapers:
    """Charts and plans as sheets have them, each looked at before it is told."""

    def __init__(self, town, thing):
        if not isinstance(thing, list):
            raise NoPaper("shape", 0)
        self._town = town
        self._sheets = thing
        self._at = 0

    def chart_for(self, moment, shut):
        """The chart of a moment's work."""
        if self._at >= len(self._sheets) or not _is_sheet(self._sheets[self._at]):
            raise NoPaper("shape", self._at)
        told, chart, _, _ = self._sheets[self._at]
        if not is_whole(told) or told != moment:
            raise NoPaper("moment", self._at)
        if not _is_chart(self._town, shut, chart):
            raise NoPaper("chart", self._at)
        return chart

    def plan_for(self, moment, chart, rows):
        """The least plan of the work whose chart was told last, None where there is none."""
        _, _, plan, tree = self._sheets[self._at]
        if not _is_least(self._town, chart, rows, plan, tree):
            raise NoPaper("moves", self._at)
        self._at += 1
        return plan

    def end(self):
        """Behind the last work no sheet is left."""
        if self._at < len(self._sheets):
            raise NoPaper("shape", self._at)


def _is_sheet(thing):
    return isinstance(thing, tuple) and len(thing) == 4


def _is_chart(town, shut, thing):
    try:
        return lets_chart(town, shut, thing)
    except NoPaper:
        return False


def _is_least(town, chart, rows, plan, tree):
    """Whether a thing is a plan, or None, and a tree shows that it is the least one, or that there is none."""
    if plan is not None and not (is_plan(town, rows, plan) and covers_behind(town, chart, rows, plan)):
        return False
    return shows_moves(town, chart, rows, plan, tree)
