"""A second reading of [35]: a desk that keeps nothing but the rows of its deeds."""

from tests.secondstories import due_chart, due_road
from tests.seconddays import SecondDay


def clock(moment):
    return "-" if moment is None else str(moment // 60) + ":" + str(100 + moment % 60)[1:]


def words(things):
    return " ".join(str(thing) for thing in things)


def event_words(event):
    """An event as the interface tells."""
    told = [clock(event[0]), event[1]]
    for at, part in enumerate(event[2:]):
        if event[1] == "drives" and at == 3:
            told.append(clock(part))
        elif event[1] == "bare":
            told.append(",".join(part) if part else "-")
        elif part is None:
            told.append("-")
        elif isinstance(part, tuple):
            told.append(words(part))
        else:
            told.append(str(part))
    return " ".join(told)


def rows(texts):
    return "; ".join(texts) if texts else "-"


def parts_of(row):
    """The moment and the telling of a row that is right."""
    _, when, word, *rest = row.split(" ")
    hours, minutes = when.split(":")
    if word in ("open", "shut", "grade", "call"):
        rest[-1] = int(rest[-1])
    return int(hours) * 60 + int(minutes), (word, *rest)


class SecondDesk:
    """What it answers to rows that are right; a refusal is told by its name."""

    def __init__(self, town):
        self.town, self.deeds = town, []

    def day(self):
        day = SecondDay(self.town)
        for row in self.deeds:
            self.do(day, row)
        return day

    def do(self, day, row):
        word = row.split(" ")[0]
        if word == "until":
            hours, minutes = row.split(" ")[1].split(":")
            told = day.go_to(int(hours) * 60 + int(minutes))
        else:
            told = getattr(day, {"at": "tell"}.get(word, word))(*parts_of(row))
        if isinstance(told, str):
            return told
        if word == "at":
            return "new" if told else "known"
        if word == "until":
            return rows([event_words(event) for event in told])
        return " / ".join(rows([event_words(event) for event in events]) for events in told)

    def say(self, row):
        word = row.split(" ")[0]
        if word == "undo":
            if not self.deeds:
                return "NoDeed"
            self.deeds.pop()
            return "ok"
        day = self.day()
        if word not in ("at", "until", "amend", "strike"):
            return self.told(day, day.state(), row.split(" "))
        told = self.do(day, row)
        if told not in ("NoMoment", "Late", "TooMany", "NoLog"):
            self.deeds.append(row)
        return told

    def told(self, day, state, row):
        _, shut, wagons, calls, bare = state
        if row[0] == "wagons":
            return rows([words([*wagon[:4], clock(wagon[4]), *wagon[5]]) for wagon in wagons])
        if row[0] == "calls":
            return rows([words([*call[:3], clock(call[3]), *[part for part in day.served(call[0]) if part]]) for call in calls])
        if row[0] in ("bare", "shut"):
            return words(bare if row[0] == "bare" else shut) or "-"
        if row[0] == "due":
            due = day.due(row[1])
            return due if due == "NoCall" else clock(due)
        if row[0] == "log":
            return rows([clock(moment) + " " + words(telling) for moment, telling in day.log()])
        if row[0] == "now":
            return clock(day.now())
        return self.way(shut, row[1], row[2])

    def way(self, shut, one, other):
        chart, roads = due_chart(self.town, shut), []
        if one == other:
            return "here"
        while one != other:
            road = due_road(self.town, shut, chart, one, other)
            if road is None:
                return "-"
            roads.append(road[0])
            one = road[1]
        return words(roads)
