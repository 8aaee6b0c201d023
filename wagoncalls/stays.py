"""What a story holds: the stays of wagons at calls, and the waits of calls."""


def stays_of(events):
    """The stays: a list of tuples (wagon, call, begin, there, end), one for each sending."""
    stays = []
    # Of each wagon that is to a call, or at one, the number of its stay.
    running = {}
    for event in events:
        moment, word = event[0], event[1]
        if word == "there":
            _note(stays, running[event[2]], 3, moment)
        for wagon in _over_by(event, stays, running):
            _note(stays, running.pop(wagon), 4, moment)
        if word == "sent":
            running[event[3]] = len(stays)
            stays.append((event[3], event[2], moment, None, None))
    return stays


def waits_of(events):
    """The waits: a list of tuples (call, since, first, there, over), one for each call that came."""
    waits = []
    # Of each call that is open the number of its wait.
    running = {}
    for event in events:
        moment, word = event[0], event[1]
        if word == "sent" and waits[running[event[2]]][2] is None:
            _note(waits, running[event[2]], 2, moment)
        elif word == "there":
            # One that is at a call stays until it is done: there is no second one.
            _note(waits, running[event[3]], 3, moment)
        elif word == "told" and event[2][0] == "done":
            _note(waits, running.pop(event[2][1]), 4, moment)
        elif word == "told" and event[2][0] == "call":
            running[event[2][1]] = len(waits)
            waits.append((event[2][1], moment, None, None, None))
    return waits


def _note(rows, number, at, moment):
    """The row of a number has a moment in this place from now on."""
    row = rows[number]
    rows[number] = row[:at] + (moment,) + row[at + 1:]


def _over_by(event, stays, running):
    """The wagons whose stays are over by an event, a list."""
    word = event[1]
    if word == "sent":
        return [wagon for wagon in running if wagon == event[3]]
    if word == "cut":
        return [event[2]]
    if word == "told" and event[2][0] == "off":
        return [wagon for wagon in running if wagon == event[2][1]]
    if word == "told" and event[2][0] == "done":
        return [wagon for wagon, number in running.items() if stays[number][1] == event[2][1]]
    return []
