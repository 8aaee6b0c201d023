"""What a desk answers: events, wagons, calls and other things as texts."""

from wagoncalls.logs import log_text, telling_text
from wagoncalls.wagons import served_by
from wagoncalls.words import moment_text

NOTHING = "-"


def events_text(events):
    """Events, parted by semicolons."""
    return _parted([_event_text(event) for event in events])


def wagons_text(wagons):
    """Wagons, parted by semicolons."""
    return _parted([_wagon_text(wagon) for wagon in wagons])


def calls_text(calls, wagons):
    """Calls and how each stands with these wagons, parted by semicolons."""
    return _parted([_call_text(call, wagons) for call in calls])


def rows_text(log):
    """The rows of a log, parted by semicolons."""
    # The text of the log without tellings has a row without signs, which is none.
    return _parted(log_text(log).split("\n") if log else [])


def words_text(things):
    """Names or numbers, parted by blanks."""
    return " ".join([str(thing) for thing in things]) or NOTHING


def moment_or_none(moment):
    """A moment, or that there is none."""
    return NOTHING if moment is None else moment_text(moment)


def way_text(roads):
    """A way by the numbers of its roads."""
    return "here" if roads == () else words_text(roads or [])


def _parted(rows):
    return "; ".join(rows) or NOTHING


def _event_text(event):
    moment, word = event[0], event[1]
    words = [moment_text(moment), word]
    if word in ("told", "passed"):
        words += [telling_text(event[2]), *event[3:]]
    elif word == "bare":
        words.append(",".join(event[2]) or NOTHING)
    elif word == "drives":
        wagon, road, place, then = event[2:]
        words += [wagon, str(road), place, moment_text(then)]
    else:
        words += [NOTHING if part is None else part for part in event[2:]]
    return " ".join(words)


def _wagon_text(wagon):
    name, home, post, place, moment, task = wagon
    return " ".join([name, home, post, place, moment_text(moment), *task])


def _call_text(call, wagons):
    name, place, grade, since = call
    word, wagon = served_by(wagons, name)
    stands = [word] if wagon is None else [word, wagon]
    return " ".join([name, place, str(grade), moment_text(since), *stands])
