"""A second reading of [24] to [31], word by word, for the tests to hold the program against; and made logs."""

import itertools
import random

from tests.secondwagons import due_cut, due_far, due_sendings
from tests.samples import random_town

WORDS = ["open", "shut", "done", "off", "on", "grade", "call"]
FREE = ("free",)
BEGUN = (None, (), (), (), ())


def due_chart(town, shut):
    """[9], by way of each place."""
    places = range(len(town[0]))
    least = {(one, other): 0 if one == other else None for one in places for other in places}
    for number, (one, other, there, back) in enumerate(town[1]):
        for begin, end, minutes in [(one, other, there), (other, one, back)]:
            pair = (town[0].index(begin), town[0].index(end))
            if number not in shut and minutes is not None and (least[pair] is None or minutes < least[pair]):
                least[pair] = minutes
    for between, one, other in itertools.product(places, places, places):
        parts = least[one, between], least[between, other]
        if None not in parts and (least[one, other] is None or sum(parts) < least[one, other]):
            least[one, other] = sum(parts)
    return tuple(tuple(least[one, goal] for one in places) for goal in places)


def minutes(town, chart, one, other):
    return chart[town[0].index(other)][town[0].index(one)]


def due_bare(town, chart, posts):
    """[12]"""
    def near(post, place):
        return minutes(town, chart, post, place) is not None and minutes(town, chart, post, place) <= town[3]
    return tuple(place for place in town[0] if not any(near(post, place) for post in posts))


def due_plan(town, chart, rows):
    """[15]: all plans, by how many moves they have."""
    lost = due_bare(town, chart, town[2])
    held = {place: set(town[0]) - set(due_bare(town, chart, [place])) for place in town[0]}
    for many in range(len(rows) + 1):
        found = []
        for moved in itertools.combinations(range(len(rows)), many):
            stands = [[stand for stand in rows[at][2] if stand != rows[at][1]] for at in moved]
            for taken in itertools.product(*stands):
                posts = [post for _, post, _ in rows]
                for at, stand in zip(moved, taken):
                    posts[at] = stand
                if len(set(lost).union(*[held[post] for post in posts])) == len(town[0]):
                    found.append([(rows[at][0], stand) for at, stand in zip(moved, taken)])
        if found:
            return min(found)
    return None


def due_road(town, shut, chart, one, other):
    """[10]"""
    for number, (begin, end, there, back) in enumerate(town[1]):
        for place, led, drive in [(begin, end, there), (end, begin, back)]:
            if number in shut or drive is None or place != one or one == other:
                continue
            rest = minutes(town, chart, led, other)
            if rest is not None and drive + rest == minutes(town, chart, one, other):
                return number, led, drive
    return None


def due_told(m, shut, wagons, calls, telling):
    """[26]: why it is passed over, or None where it is done; shut a set, wagons and calls dicts of dicts."""
    word, *rest = telling
    if word in ("open", "shut"):
        if (rest[0] in shut) == (word == "shut"):
            return "twice"
        shut ^= {rest[0]}
    elif word == "done":
        if rest[0] not in calls:
            return "none"
        del calls[rest[0]]
        for wagon in wagons.values():
            if wagon["task"][1:] == (rest[0],):
                wagon.update(task=FREE, post=wagon["home"])
    elif word == "off":
        if rest[0] not in wagons:
            return "none"
        if wagons[rest[0]]["task"][0] == "at":
            return "busy"
        del wagons[rest[0]]
    elif word == "on":
        if rest[0] in wagons:
            return "twice"
        if len(wagons) == 5:
            return "many"
        wagons[rest[0]] = {"home": rest[1], "post": rest[1], "place": rest[1], "moment": m, "task": FREE}
    elif word == "grade":
        if rest[0] not in calls:
            return "none"
        if calls[rest[0]]["grade"] == rest[1]:
            return "twice"
        calls[rest[0]]["grade"] = rest[1]
    elif word == "call":
        if rest[0] in calls:
            return "twice"
        if len(calls) == 10:
            return "many"
        calls[rest[0]] = {"place": rest[1], "grade": rest[2], "since": m}
    return None


def taken_apart(state):
    shut, wagons, calls = set(state[1]), {}, {}
    for name, home, post, place, moment, task in state[2]:
        wagons[name] = {"home": home, "post": post, "place": place, "moment": moment, "task": task}
    for name, place, grade, since in state[3]:
        calls[name] = {"place": place, "grade": grade, "since": since}
    return shut, wagons, calls


def wagon_rows(wagons):
    return [(name, *[wagons[name][key] for key in ("home", "post", "place", "moment", "task")]) for name in sorted(wagons)]


def call_rows(calls):
    return [(name, *[calls[name][key] for key in ("place", "grade", "since")]) for name in sorted(calls)]


def put_together(m, shut, wagons, calls, bare):
    return m, tuple(sorted(shut)), tuple(wagon_rows(wagons)), tuple(call_rows(calls)), bare


def due_order(tellings):
    """[21]"""
    return [telling for word in WORDS for telling in sorted({row for row in tellings if row[0] == word})]


def due_sheet(town, state, m, tellings):
    """[25], [32]: a tuple (events, state, (chart, plan, rows))."""
    shut, wagons, calls = taken_apart(state)
    bare = state[4]
    events = []
    for name in sorted(wagons):
        wagon = wagons[name]
        if wagon["moment"] == m:
            if wagon["task"][0] == "to" and calls[wagon["task"][1]]["place"] == wagon["place"]:
                events.append((m, "there", name, wagon["task"][1]))
                wagon["task"] = ("at", wagon["task"][1])
            elif wagon["task"] == FREE and wagon["place"] == wagon["post"]:
                events.append((m, "stands", name, wagon["place"]))
    for telling in due_order(tellings):
        why = due_told(m, shut, wagons, calls, telling)
        events.append((m, "told", telling) if why is None else (m, "passed", telling, why))
    chart = due_chart(town, shut)
    cut, rows = due_cut(town, chart, wagon_rows(wagons), call_rows(calls))
    events += [(m, "cut", *pair) for pair in cut]
    sent, rows = due_sendings(town, chart, m, rows, call_rows(calls))
    events += [(m, "sent", *one) for one in sent]
    wagons = taken_apart((m, (), rows, (), ()))[1]
    free_rows = []
    for name in sorted(wagons):
        wagon = wagons[name]
        if wagon["task"] == FREE:
            if minutes(town, chart, wagon["place"], wagon["post"]) is None:
                events.append((m, "held", name, wagon["place"]))
                wagon["post"] = wagon["place"]
            can = tuple(stand for stand in town[2] if minutes(town, chart, wagon["place"], stand) is not None)
            free_rows.append((name, wagon["post"], can))
    plan = due_plan(town, chart, free_rows)
    for name, stand in plan if plan is not None else []:
        events.append((m, "moved", name, stand))
        wagons[name]["post"] = stand
    places = due_bare(town, chart, [wagon["post"] for wagon in wagons.values() if wagon["task"] == FREE])
    if places != bare:
        events.append((m, "bare", places))
    for name in sorted(wagons):
        wagon = wagons[name]
        if wagon["task"][0] == "to" and wagon["moment"] <= m and calls[wagon["task"][1]]["place"] == wagon["place"]:
            events.append((m, "there", name, wagon["task"][1]))
            wagon["task"] = ("at", wagon["task"][1])
    for name in sorted(wagons):
        wagon = wagons[name]
        if wagon["moment"] <= m and wagon["task"][0] != "at":
            goal = wagon["post"] if wagon["task"] == FREE else calls[wagon["task"][1]]["place"]
            road = due_road(town, shut, chart, wagon["place"], goal)
            if road is not None:
                wagon.update(place=road[1], moment=m + road[2])
                events.append((m, "drives", name, road[0], road[1], m + road[2]))
    return events, put_together(m, shut, wagons, calls, places), (chart, plan, free_rows)


def due_work(town, state, m, tellings):
    """[25]"""
    return due_sheet(town, state, m, tellings)[:2]


def due_works(town, log, until):
    """[28], gone through minute by minute: a list of what due_sheet tells."""
    state, works = BEGUN, []
    for m in range(until + 1):
        tellings = [telling for moment, telling in log if moment == m]
        if tellings or any(wagon[4] == m and wagon[4] > state[0] for wagon in state[2]):
            works.append(due_sheet(town, state, m, tellings))
            state = works[-1][1]
    return works


def due_story(town, log, until):
    """[28]"""
    works = due_works(town, log, until)
    return [event for work in works for event in work[0]], works[-1][1] if works else BEGUN


def followed(events):
    """[3]: the state to which the events lead, by their words alone."""
    m, shut, wagons, calls, bare = None, set(), {}, {}, ()
    for m, word, *rest in events:
        if word == "told":
            assert due_told(m, shut, wagons, calls, rest[0]) is None
        elif word == "there":
            wagons[rest[0]]["task"] = ("at", rest[1])
        elif word == "cut":
            wagons[rest[0]].update(task=FREE, post=wagons[rest[0]]["home"])
        elif word == "sent":
            wagons[rest[1]]["task"] = ("to", rest[0])
        elif word in ("held", "moved"):
            wagons[rest[0]]["post"] = rest[1]
        elif word == "bare":
            bare = rest[0]
        elif word == "drives":
            wagons[rest[0]].update(place=rest[2], moment=rest[3])
        else:
            assert word in ("stands", "passed")
    return put_together(m, shut, wagons, calls, bare)


def due_of(town, state, name):
    """[27]"""
    for row in state[2]:
        if row[5] == ("to", name):
            place = [call[1] for call in state[3] if call[0] == name][0]
            return state[0] + due_far(town, due_chart(town, state[1]), state[0], row, place)
    return None


def busy_log(seed, town, many, last=90):
    """A log of a town in which much happens: few names, roads shut and opened, wagons first."""
    chance = random.Random(seed)
    wagons, calls = ["v", "w1", "w10", "w2", "x"][:chance.randint(1, 5)], ["a", "b", "c1", "c10", "w1", "z"]
    if chance.randint(0, 4) == 0:
        wagons, calls = wagons + ["y", "z"], calls + ["d", "e", "f", "g", "h", "i"]
    words = ["done", "off", "on", "grade", "call", "call"]
    words += chance.choice([[], ["call"] * 3, ["done"] * 6, ["on", "on", "off"]])
    if town[1]:
        words += ["open", "shut", "shut"] * chance.choice([0, 1, 4])
    log = [(chance.randint(0, last // 4), ("on", wagon, chance.choice(town[2]))) for wagon in wagons[:many // 3]]
    while len(log) < many:
        word = chance.choice(words)
        telling = {
            "done": ("done", chance.choice(calls)), "off": ("off", chance.choice(wagons)),
            "on": ("on", chance.choice(wagons), chance.choice(town[2])),
            "grade": ("grade", chance.choice(calls), chance.randint(1, 5)),
            "call": ("call", chance.choice(calls), chance.choice(town[0]), chance.randint(1, 5)),
        }.get(word) or (word, chance.randrange(len(town[1])))
        log.append((chance.randint(0, last), telling))
    return log


def busy_town(seed):
    """A town of which most can be driven to, its places in a row, some roads besides."""
    chance = random.Random(seed)
    town = random_town(seed, chance.choice([2, 5, 10, 10]), chance.choice([0, 1, 3, 9]), chance.choice([9, 20, 60]))
    along = [(one, other, chance.randint(1, 20), chance.choice([None, 1, 9, 9, 20])) for one, other in zip(town[0], town[0][1:])]
    return (town[0], (*along, *town[1])[:18], town[2], chance.choice([0, 2, 5, 9, 9, 20, 40]))
