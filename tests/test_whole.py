"""[3] the whole: a log as text, read back, told to a day and to a desk, put together, by papers: one story."""

import copy
import random

from tests.samples import Case
from tests.secondpapers import other_sheets
from tests.seconddesk import clock, event_words
from tests.secondstories import FREE, busy_log, busy_town, due_chart, due_works, followed
from tests.secondwagons import due_far, due_may
from tests.test_days import all_of as all_of_day
from tests.test_days import day_of
from tests.test_desk import all_of as all_of_desk
from tests.test_desk import row_of
from tests.test_stories import shuffled
from wagoncalls.days import Day
from wagoncalls.desk import Desk
from wagoncalls.logs import log_by, log_text, together
from wagoncalls.sheets import sheets_of
from wagoncalls.stays import stays_of, waits_of
from wagoncalls.stories import story_of
from wagoncalls.tellers import story_by
from wagoncalls.towntexts import town_by, town_text


class Wholes(Case):
    def towns(self, many, tellings=30, last=60):
        for seed in range(many):
            town = busy_town(seed + 3000)
            yield seed, town, busy_log(seed, town, tellings, last)


class OneStoryTests(Wholes):
    def told_to_day(self, seed, town, log, until):
        """A day that is told a log in any order, in time or late, and is asked between."""
        chance, day = random.Random(seed), Day(town)
        nows = sorted(chance.sample(range(until), 5))
        for moment, telling in log:
            if nows and chance.random() < 0.2:
                day.go_to(nows.pop(0))
            if chance.random() < 0.2:
                all_of_day(day)
            late = day.now() is not None and moment <= day.now()
            self.ask(day.amend if late or chance.random() < 0.3 else day.tell, moment, telling)
        day.go_to(until)
        return day

    def told_to_desk(self, seed, town, log, until):
        chance, desk, now = random.Random(seed), Desk(town), -1
        nows = sorted(chance.sample(range(until), 5))
        for moment, telling in log:
            if nows and chance.random() < 0.2:
                now = nows.pop(0)
                desk.say(f"until {clock(now)}")
            if chance.random() < 0.2:
                all_of_desk(desk)
            desk.say(row_of("amend" if moment <= now else "at", moment, telling))
            if chance.random() < 0.2:
                before = all_of_desk(desk)
                desk.say(chance.choice([f"until {clock(until)}", row_of("amend", 3, ("off", "v")), row_of("strike", moment, telling)]))
                desk.say("undo")
                self.same(all_of_desk(desk), before)
        desk.say(f"until {clock(until)}")
        return desk

    def test_one_story_whoever_tells_it(self):
        for seed, town, log in self.towns(60):
            due = story_of(town, log, 70)
            again = self.ask(log_by, self.ask(town_by, town_text(town)), self.ask(log_text, shuffled(seed, log)))
            self.same(self.ask(story_of, town, again, 70), due)
            day = self.told_to_day(seed, town, shuffled(seed, again), 70)
            self.same((day.story(), day.state(), day.log()), (*due, again))
            desk, other = self.told_to_desk(seed, town, shuffled(seed + 1, again), 70), Desk(town)
            for row in log_text(again).split("\n"):
                other.say("at " + row)
            self.same(other.say("until 1:10"), "; ".join(event_words(event) for event in due[0]))
            self.same(all_of_desk(desk), all_of_desk(other))
            self.same(desk.say("log").replace("; ", "\n"), log_text(log))
            self.same(self.ask(story_by, town, log, 70, sheets_of(town, again, 70)), due)
            self.same(self.ask(story_by, town, again, 70, other_sheets(seed, town, due_works(town, log, 70))), due)
            self.same(followed(due[0]), due[1])

    def test_two_rooms_logs(self):
        for seed, town, log in self.towns(60):
            chance = random.Random(seed)
            one = [row for row in log if chance.random() < 0.6]
            other = [row for row in log if row not in one or chance.random() < 0.3]
            whole = self.ask(together, one, other)
            self.same(self.ask(together, other, one), whole)
            self.same(story_of(town, whole, 70), story_of(town, log, 70))
            day = day_of(town, one, 40)
            for moment, telling in shuffled(seed, other):
                day.amend(moment, telling)
            day.go_to(70)
            self.same((day.story(), day.state()), story_of(town, log, 70))

    def test_what_is_struck_out_or_undone(self):
        for seed, town, log in self.towns(40):
            struck = random.Random(seed).sample(log, 10)
            rest = [row for row in log if row not in struck]
            due = self.desk_with(town, rest)
            desk = self.desk_with(town, log)
            for moment, telling in dict.fromkeys(struck):
                desk.say(row_of("strike", moment, telling))
            self.same(all_of_desk(desk), all_of_desk(due))
            desk = self.desk_with(town, rest)
            amended = [row_of("amend", moment, telling) for moment, telling in shuffled(seed, struck)]
            for row in amended:
                desk.say(row)
            self.same(all_of_desk(desk), all_of_desk(self.desk_with(town, log)))
            for _ in amended:
                self.same(desk.say("undo"), "ok")
            self.same(all_of_desk(desk), all_of_desk(due))

    def desk_with(self, town, log):
        desk = Desk(town)
        for moment, telling in log:
            desk.say(row_of("at", moment, telling))
        desk.say("until 1:05")
        return desk

    def test_what_is_told_ahead_comes(self):
        """Asked early or late, and gone on in one step or in many."""
        for seed, town, log in self.towns(30):
            day, whole = day_of(town, log), story_of(town, log, 200)[0]
            told = []
            for moment in sorted(random.Random(seed).choices(range(200), k=12)) + [200]:
                told += day.go_to(moment)
            self.same(told, whole)


class EachMomentTests(Wholes):
    def test_behind_each_work(self):
        for seed, town, log in self.towns(60, 35, 90):
            day = day_of(town, log, 120)
            for moment in sorted({event[0] for event in day.story()}):
                now, shut, wagons, calls, _ = day.state_at(moment)
                self.same(now, moment)
                served = [wagon[5][1] for wagon in wagons if wagon[5] != FREE]
                self.assertEqual(len(served), len(set(served)))
                self.assertLessEqual(set(served), {call[0] for call in calls})
                for name, place, _, _ in calls:
                    for wagon in wagons:
                        if name not in served and due_may(calls, wagon, name):
                            self.assertIsNone(due_far(town, due_chart(town, shut), now, wagon, place))

    def test_stays_and_waits_say_what_the_state_says(self):
        for seed, town, log in self.towns(60, 35, 90):
            for until in [20, 50, 95]:
                events, state = story_of(town, log, until)
                running = sorted((stay[0], "to" if stay[3] is None else "at", stay[1]) for stay in stays_of(events) if stay[4] is None)
                self.same(running, [(wagon[0], *wagon[5]) for wagon in state[2] if wagon[5] != FREE])
                self.same(sorted(wait[:2] for wait in waits_of(events) if wait[4] is None), [(call[0], call[3]) for call in state[3]])


class OwnTests(Wholes):
    def test_handed_in_things_are_unchanged_and_told_ones_the_askers_own(self):
        for seed, town, log in self.towns(10):
            before = copy.deepcopy((town, log))
            sheets = sheets_of(town, log, 70)
            events, state = story_by(town, log, 70, sheets)
            for told in [events, stays_of(events), waits_of(events), *[sheet[2] for sheet in sheets], sheets]:
                if told:
                    told.pop()
            self.same((town, log), before)
            self.same(story_by(town, log, 70, sheets_of(town, log, 70))[1], state)


if __name__ == "__main__":
    import unittest
    unittest.main()
