"""A second reading of [29] to [31]: a day that keeps nothing but its log and its now."""

from tests.secondstories import BEGUN, due_of, due_story
from tests.test_logs import due_sorted

ASKED = {}


def story_until(town, log, until):
    """The second reading's story, each one read once."""
    key = (town, tuple(due_sorted(log)), until)
    if key not in ASKED:
        ASKED[key] = due_story(town, log, until)
    return ASKED[key]


class SecondDay:
    def __init__(self, town):
        self.told_town, self.told_log, self.told_now = town, [], None

    def whole(self):
        return ([], BEGUN) if self.told_now is None else story_until(self.told_town, self.told_log, self.told_now)

    def tell(self, moment, telling):
        if self.told_now is not None and not self.told_now < moment:
            return "Late"
        return self.put(moment, telling)

    def put(self, moment, telling):
        if (moment, telling) in self.told_log:
            return False
        if len(self.told_log) == 100:
            return "TooMany"
        self.told_log = self.told_log + [(moment, telling)]
        return True

    def go_to(self, moment):
        if moment < (0 if self.told_now is None else self.told_now):
            return "NoMoment"
        before, self.told_now = self.told_now, moment
        return [event for event in self.whole()[0] if before is None or event[0] > before]

    def amend(self, moment, telling):
        was = self.whole()[0]
        told = self.put(moment, telling)
        return told if told == "TooMany" else self.unlike(was)

    def strike(self, moment, telling):
        if (moment, telling) not in self.told_log:
            return "NoLog"
        was = self.whole()[0]
        self.told_log = [row for row in self.told_log if row != (moment, telling)]
        return self.unlike(was)

    def unlike(self, was):
        now = self.whole()[0]
        for at in range(max(len(was), len(now)) + 1):
            if was[:at + 1] != now[:at + 1]:
                return was[at:], now[at:]
        return [], []

    def town(self):
        return self.told_town

    def log(self):
        return due_sorted(self.told_log)

    def now(self):
        return self.told_now

    def story(self):
        return self.whole()[0]

    def state(self):
        return self.whole()[1]

    def state_at(self, moment):
        if self.told_now is None or moment > self.told_now:
            return "NoMoment"
        return story_until(self.told_town, self.told_log, moment)[1]

    def wagons(self):
        return [wagon[0] for wagon in self.state()[2]]

    def served(self, name):
        if name not in [call[0] for call in self.state()[3]]:
            return "NoCall"
        found = [(wagon[5][0], wagon[0]) for wagon in self.state()[2] if wagon[5][1:] == (name,)]
        return found[0] if found else ("waits", None)

    def due(self, name):
        if name not in [call[0] for call in self.state()[3]]:
            return "NoCall"
        return due_of(self.told_town, self.state(), name)
