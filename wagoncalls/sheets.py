"""The sheets of a log: what its works went by, for others to tell its story without seeking anything."""

from wagoncalls.moments import begun
from wagoncalls.papers import SoughtPapers
from wagoncalls.walks import works_behind


def sheets_of(town, log, until):
    """The sheets of a log until a moment, a list of tuples (moment, chart, plan, tree), one for each work."""
    papers = SoughtPapers(town)
    works_behind(town, begun(), log, until, papers)
    return papers.sheets
