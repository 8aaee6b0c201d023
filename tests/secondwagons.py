"""A second reading of [17] to [20], word by word, for the tests to hold the program against."""

import random

NAMES = ["a", "a1", "a10", "a2", "b", "c", "c1", "w", "w1", "w10", "w2", "zz", "abcdefgh"]


def due_far(town, chart, now, wagon, place):
    """[18]"""
    _, _, _, at, moment, _ = wagon
    minutes = chart[town[0].index(place)][town[0].index(at)]
    return None if minutes is None else minutes + (moment - now if moment - now > 0 else 0)


def due_waiting(wagons, calls):
    """[19]: pairs held against one another instead of keys."""
    rest = [call for call in calls if not any(wagon[5][1:] == (call[0],) for wagon in wagons)]
    told = []
    while rest:
        first = rest[0]
        for call in rest:
            if call[2] != first[2]:
                ahead = call[2] < first[2]
            elif call[3] != first[3]:
                ahead = call[3] < first[3]
            else:
                ahead = call[0] < first[0]
            if ahead:
                first = call
        told.append(first[0])
        rest.remove(first)
    return told


def due_may(calls, wagon, name):
    """[19]"""
    grades = {call[0]: call[2] for call in calls}
    if wagon[5] == ("free",):
        return True
    return wagon[5][0] == "to" and wagon[5][1] != name and grades[wagon[5][1]] > grades[name]


def due_chosen(town, chart, now, wagons, calls, name):
    """[19]"""
    place = [call[1] for call in calls if call[0] == name][0]
    best = None
    for wagon in wagons:
        minutes = due_far(town, chart, now, wagon, place)
        if minutes is None or not due_may(calls, wagon, name):
            continue
        is_to = wagon[5] != ("free",)
        if best is None or minutes < best[0] or minutes == best[0] and (
                best[1] and not is_to or best[1] == is_to and wagon[0] < best[2]):
            best = (minutes, is_to, wagon[0])
    return best and best[2]


def due_cut(town, chart, wagons, calls):
    """[20]"""
    cut, behind = [], []
    for name, home, post, place, moment, task in wagons:
        goal = [call[1] for call in calls if task[0] == "to" and task[1] == call[0]]
        if goal and chart[town[0].index(goal[0])][town[0].index(place)] is None:
            cut.append((name, task[1]))
            behind.append((name, home, home, place, moment, ("free",)))
        else:
            behind.append((name, home, post, place, moment, task))
    return cut, behind


def due_sendings(town, chart, now, wagons, calls):
    """[20]"""
    behind = {wagon[0]: wagon for wagon in wagons}
    rest = [call[0] for call in calls]
    told = []
    while True:
        waits = [name for name in due_waiting(list(behind.values()), calls) if name in rest]
        if not waits:
            return told, [behind[name] for name in sorted(behind)]
        rest.remove(waits[0])
        name = due_chosen(town, chart, now, list(behind.values()), calls, waits[0])
        if name is not None:
            left = behind[name][5][1] if behind[name][5] != ("free",) else None
            told.append((waits[0], name, left))
            behind[name] = (*behind[name][:5], ("to", waits[0]))


def random_traffic(seed, town, most_grades=5):
    """Calls and wagons of a town, as [17] tells what they are; moments and sinces about 100."""
    chance = random.Random(seed)
    names = sorted(chance.sample(NAMES, chance.randint(0, 10)))
    calls = [(name, chance.choice(town[0]), chance.randint(1, most_grades), 100 + chance.randint(-3, 3)) for name in names]
    open_names = list(names)
    chance.shuffle(open_names)
    wagons = []
    for name in sorted(chance.sample(NAMES, chance.randint(0, 5))):
        place, moment, task = chance.choice(town[0]), 100 + chance.randint(-5, 15), ("free",)
        kind = chance.choice(["free", "to", "to", "at"])
        if kind != "free" and open_names:
            call = open_names.pop()
            task = (kind, call)
            if kind == "at":
                place = calls[names.index(call)][1]
        wagons.append((name, chance.choice(town[2]), chance.choice(town[0]), place, moment, task))
    return wagons, calls
