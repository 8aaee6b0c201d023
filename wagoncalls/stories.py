"""The story of a log."""

from wagoncalls.moments import begun
from wagoncalls.papers import SoughtPapers
from wagoncalls.walks import events_of, state_behind, works_behind


def story_of(town, log, until):
    """A tuple (events, state): all that happens until a moment, and the state then."""
    works = works_behind(town, begun(), log, until, SoughtPapers(town))
    return events_of(works), state_behind(works)
