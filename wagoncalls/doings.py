"""What tellings do, and why they are passed over.

They are told to a scene, a tuple (shut, wagons, calls): the roads shut, the wagons on duty and the open calls.
"""

from wagoncalls.wagons import FREE, freed, named

MOST_WAGONS = 5
MOST_CALLS = 10


def why_passed(scene, telling):
    """Why a telling is passed over; None where it is done."""
    shut, wagons, calls = scene
    word, subject = telling[0], telling[1]
    if word == "open":
        return None if subject in shut else "twice"
    if word == "shut":
        return "twice" if subject in shut else None
    if word == "off":
        return _why_not_off(named(wagons, subject))
    if word == "on":
        return _why_no_more(wagons, subject, MOST_WAGONS)
    if word == "call":
        return _why_no_more(calls, subject, MOST_CALLS)
    call = named(calls, subject)
    if call is None:
        return "none"
    return "twice" if word == "grade" and call[2] == telling[2] else None


def scene_behind(scene, moment, telling):
    """The scene behind a telling of a moment that is done."""
    shut, wagons, calls = scene
    word, subject = telling[0], telling[1]
    if word == "open":
        return tuple([road for road in shut if road != subject]), wagons, calls
    if word == "shut":
        return tuple(sorted([*shut, subject])), wagons, calls
    if word == "done":
        return shut, _freed_from(wagons, subject), _without(calls, subject)
    if word == "off":
        return shut, _without(wagons, subject), calls
    if word == "on":
        stand = telling[2]
        return shut, sorted([*wagons, (subject, stand, stand, stand, moment, FREE)]), calls
    if word == "grade":
        return shut, wagons, [_with_grade(call, telling[2]) if call[0] == subject else call for call in calls]
    return shut, wagons, sorted([*calls, (*telling[1:], moment)])


def _why_not_off(wagon):
    if wagon is None:
        return "none"
    return "busy" if wagon[5][0] == "at" else None


def _why_no_more(rows, name, most):
    if named(rows, name) is not None:
        return "twice"
    return "many" if len(rows) >= most else None


def _without(rows, name):
    return [row for row in rows if row[0] != name]


def _freed_from(wagons, call):
    return [freed(wagon) if wagon[5] != FREE and wagon[5][1] == call else wagon for wagon in wagons]


def _with_grade(call, grade):
    name, place, _, since = call
    return name, place, grade, since
