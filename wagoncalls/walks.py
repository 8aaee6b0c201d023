"""The works of a log, one behind the other."""

from wagoncalls.moments import begun, comes
from wagoncalls.works import worked


def works_behind(town, state, log, until, papers):
    """The works behind a state until a moment: a list of tuples (events, state)."""
    tellings = _by_moments(log)
    works = []
    moment = _next_moment(state, tellings, until)
    while moment is not None:
        told, state = worked(town, state, moment, tellings.get(moment, []), papers)
        works.append((told, state))
        moment = _next_moment(state, tellings, until)
    return works


def events_of(works):
    """The events of works, a list."""
    return [event for events, _ in works for event in events]


def state_behind(works):
    """The state behind works, that at the beginning where there are none."""
    return works[-1][1] if works else begun()


def _by_moments(log):
    """The tellings of a log: a dict that has for each moment a list."""
    tellings = {}
    for moment, telling in log:
        tellings.setdefault(moment, []).append(telling)
    return tellings


def _next_moment(state, tellings, until):
    """The next moment for which there are tellings or which comes, None where it is later than until."""
    now = state[0]
    found = [moment for moment in tellings if now is None or moment > now]
    come = comes(state)
    if come is not None:
        found.append(come)
    return min([moment for moment in found if moment <= until], default=None)
