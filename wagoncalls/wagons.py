"""How far wagons are, which calls wait, and which wagon is chosen to a call."""

FREE = ("free",)


def far(town, chart, now, wagon, place):
    """The minutes from now until a wagon can be at a place, whatever its task; None where it has no way there."""
    places = town[0]
    begin, moment = wagon[3], wagon[4]
    minutes = chart[places.index(place)][places.index(begin)]
    if minutes is None:
        return None
    return max(moment - now, 0) + minutes


def waiting(wagons, calls):
    """The names of the calls to which no wagon is, and at which none is, as they are looked at."""
    served = [wagon[5][1] for wagon in wagons if wagon[5] != FREE]
    rows = sorted([(grade, since, name) for name, place, grade, since in calls if name not in served])
    return [row[2] for row in rows]


def may_be_sent(calls, wagon, name):
    """Whether a wagon may be sent to the call of a name."""
    task = wagon[5]
    if task == FREE:
        return True
    return task[0] == "to" and named(calls, task[1])[2] > named(calls, name)[2]


def chosen(town, chart, now, wagons, calls, name):
    """The name of the wagon that is chosen to the call of a name, None where there is none."""
    place = named(calls, name)[1]
    found = []
    for wagon in wagons:
        if may_be_sent(calls, wagon, name):
            minutes = far(town, chart, now, wagon, place)
            if minutes is not None:
                found.append((minutes, 0 if wagon[5] == FREE else 1, wagon[0]))
    return min(found)[2] if found else None


def served_by(wagons, name):
    """How a call stands: a tuple of `waits`, `to` or `at`, and its wagon's name, None of one that waits."""
    for wagon in wagons:
        if wagon[5] != FREE and wagon[5][1] == name:
            return wagon[5][0], wagon[0]
    return "waits", None


def named(rows, name):
    """The call, or the wagon, of a name; None where there is none."""
    for row in rows:
        if row[0] == name:
            return row
    return None


def freed(wagon):
    """The wagon as it is when its call is no more its own: free, its home its post."""
    name, home, _, place, moment, _ = wagon
    return name, home, home, place, moment, FREE


def with_task(wagon, task):
    """The wagon with another task."""
    return wagon[:5] + (task,)


def with_post(wagon, post):
    """The wagon with another post."""
    name, home, _, place, moment, task = wagon
    return name, home, post, place, moment, task
