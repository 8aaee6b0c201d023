"""The state of a town, what comes of it, and the work of a moment."""

from wagoncalls.papers import SoughtPapers
from wagoncalls.wagons import far, named
from wagoncalls.ways import chart_of
from wagoncalls.works import worked


def begun():
    """The state at the beginning."""
    return None, (), (), (), ()


def comes(state):
    """The least moment of a wagon that is later than the state's, None where there is none."""
    now, _, wagons, _, _ = state
    return min([wagon[4] for wagon in wagons if wagon[4] > now], default=None)


def work(town, state, moment, tellings):
    """A tuple (events, state): what happens in a moment in which this is told, and the state behind it."""
    return worked(town, state, moment, tellings, SoughtPapers(town))


def due_at(town, state, name):
    """The moment at which the wagon that is to the call of a name will be there; None where none is to it."""
    now, shut, wagons, calls, _ = state
    for wagon in wagons:
        if wagon[5] == ("to", name):
            return now + far(town, chart_of(town, shut), now, wagon, named(calls, name)[1])
    return None
