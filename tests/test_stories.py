"""[28] the story of a log; [3] what holds of it."""

import random

from tests.samples import LONELY, SMALL, Case
from tests.secondstories import BEGUN, FREE, busy_log, busy_town, due_chart, due_of, due_plan, due_story, due_works, followed
from tests.secondwagons import due_far, due_may
from tests.test_moments import ROW
from wagoncalls.moments import begun, comes, due_at, work
from wagoncalls.stories import story_of

LOG = [
    (0, ("on", "w", "a")), (0, ("on", "v", "a")), (20, ("call", "c", "c", 3)), (22, ("shut", 2)), (30, ("done", "c")),
    (900, ("open", 2)), (900, ("off", "v")),
]
STORY = [
    (0, "told", ("on", "v", "a")), (0, "told", ("on", "w", "a")), (0, "moved", "v", "d"), (0, "drives", "v", 0, "b", 4),
    (4, "drives", "v", 1, "c", 8), (8, "drives", "v", 2, "d", 12), (12, "stands", "v", "d"),
    (20, "told", ("call", "c", "c", 3)), (20, "sent", "c", "v", None), (20, "bare", ("c", "d")), (20, "drives", "v", 2, "c", 24),
    (22, "told", ("shut", 2)), (24, "there", "v", "c"),
    (30, "told", ("done", "c")), (30, "drives", "v", 1, "b", 34), (34, "drives", "v", 0, "a", 38), (38, "stands", "v", "a"),
    (900, "told", ("open", 2)), (900, "told", ("off", "v")),
]


def shuffled(seed, log):
    """The log in another order, some of its tuples twice or more often."""
    chance = random.Random(seed)
    told = log + [chance.choice(log) for _ in range(chance.randint(0, len(log)))] if log else []
    chance.shuffle(told)
    return told


class StoryTests(Case):
    def test_a_log(self):
        for seed in range(30):
            told = self.ask(story_of, ROW, shuffled(seed, LOG), 1000)
            self.assertIs(type(told), tuple)
            self.same(told[0], STORY)
            self.same(told[1], (900, (), (("w", "a", "a", "a", 0, FREE),), (), ("c", "d")))
        self.same(story_of(ROW, LOG, 1000), due_story(ROW, LOG, 1000))

    def test_no_log(self):
        for until in [0, 5, 10 ** 6]:
            self.same(self.ask(story_of, SMALL, [], until), ([], BEGUN))

    def test_until(self):
        works = [0, 4, 8, 12, 20, 22, 24, 30, 34, 38, 900]
        for until in [*range(0, 45), 899, 900, 901, 10 ** 6]:
            events, state = self.ask(story_of, ROW, LOG, until)
            self.same(events, [event for event in STORY if event[0] <= until])
            self.same(state[0], [moment for moment in works if moment <= until][-1])

    def test_ahead_of_all(self):
        log = [(7, ("on", "w", "a")), (8, ("off", "w"))]
        for until in [0, 5, 6]:
            self.same(self.ask(story_of, LONELY, log, until), ([], BEGUN))
        self.same(self.ask(story_of, LONELY, log, 7), ([(7, "told", ("on", "w", "a"))], (7, (), (("w", "a", "a", "a", 7, FREE),), (), ())))
        self.same(self.ask(story_of, LONELY, log, 8)[1], (8, (), (), (), ("a",)))

    def test_what_comes_until_the_last_moment(self):
        last = 10 ** 6
        for at, there in [(last - 8, True), (last - 7, False), (last, False)]:
            log = [(at, ("on", "w", "gate")), (at, ("call", "c", "dock", 1))]
            events, state = self.ask(story_of, SMALL, log, last)
            self.assertEqual((last, "there", "w", "c") in events, there)
            self.same(state[2][0][5], ("at", "c") if there else ("to", "c"))

    def test_a_rest_of_days(self):
        log = [(0, ("on", "w", "a")), (999999, ("call", "c", "c", 1)), (500000, ("shut", 2))]
        events, state = self.ask(story_of, ROW, log, 10 ** 6)
        self.same([event[0] for event in events], [0, 0, 500000, 999999, 999999, 999999, 999999])
        self.same(state[0], 999999)

    def test_two_hundred_tuples(self):
        for seed in range(12):
            town = busy_town(seed)
            log = busy_log(seed, town, 200, [90, 400, 10 ** 6][seed % 3])
            until = [60, 500, 10 ** 6][seed % 3]
            whole = self.ask(story_of, town, log, until)
            self.same(self.ask(story_of, town, shuffled(seed, log)[:250] + log, until), whole)
            self.same(followed(whole[0]), whole[1])
            if until < 10 ** 6:
                self.same(whole, due_story(town, log, until))

    def test_tellings_of_one_moment(self):
        log = [(3, ("call", f"c{number}", "a", 1)) for number in range(12)] + [(3, ("on", f"w{number}", "a")) for number in range(7)]
        told = self.ask(story_of, LONELY, log, 3)
        self.same(told, due_story(LONELY, log, 3))
        self.same(sum(event[1] == "passed" for event in told[0]), 4)
        self.same(sum(event[1] == "there" for event in told[0]), 5)

    def test_the_works_are_just_these(self):
        """Worked by hand from moment to moment, the story is the same."""
        for seed in range(40):
            town = busy_town(seed)
            log = busy_log(seed, town, 25)
            state, events = begun(), []
            while True:
                moments = [moment for moment, _ in log if state[0] is None or moment > state[0]]
                moments += [comes(state)] * (comes(state) is not None)
                if not moments or min(moments) > 80:
                    break
                told, state = work(town, state, min(moments), [telling for moment, telling in log if moment == min(moments)])
                events += told
            self.same(self.ask(story_of, town, log, 80), (events, state))

    def test_many(self):
        for seed in range(300):
            town = busy_town(seed)
            log = busy_log(seed, town, seed % 41)
            until = [30, 60, 90, 150][seed % 4]
            whole = self.ask(story_of, town, log, until)
            self.same(whole, due_story(town, log, until))
            self.same(self.ask(story_of, town, shuffled(seed, log), until), whole)

    def test_what_is_told_is_the_askers_own(self):
        first = story_of(ROW, LOG, 1000)
        first[0].clear()
        self.same(story_of(ROW, LOG, 1000)[0], STORY)
        log = list(LOG)
        told = story_of(ROW, log, 1000)
        log.clear()
        self.same(told[0], STORY)


class PromiseTests(Case):
    def holds_behind(self, town, state, rows):
        """[3], of the state behind a work with these free rows."""
        now, shut, wagons, calls, bare = state
        chart = due_chart(town, shut)
        served = [wagon[5][1] for wagon in wagons if wagon[5] != FREE]
        self.assertEqual(len(served), len(set(served)))
        self.assertLessEqual(set(served), {call[0] for call in calls})
        for name, place, _, _ in calls:
            if name not in served:
                for wagon in wagons:
                    if due_may(calls, wagon, name):
                        self.assertIsNone(due_far(town, chart, now, wagon, place))
        lost = [place for place in bare if not any(
            due_far(town, chart, now, (None, None, None, stand, now, None), place) is not None
            and due_far(town, chart, now, (None, None, None, stand, now, None), place) <= town[3] for stand in town[2])]
        if sorted(lost) != sorted(bare):
            # No moving of the free wagons could bring it about.
            self.assertIsNone(due_plan(town, chart, rows))
        for wagon in wagons:
            if wagon[5][0] == "at":
                self.assertIn((wagon[5][1], wagon[3]), [call[:2] for call in calls])

    def test_behind_each_work(self):
        bare = 0
        for seed in range(250):
            town = busy_town(seed + 1000)
            log = busy_log(seed, town, 35)
            for events, state, (chart, plan, rows) in due_works(town, log, 120):
                self.holds_behind(town, state, rows)
                moves = [event[2:] for event in events if event[1] == "moved"]
                self.same(moves, plan or [])
                bare += plan is None
            # What is looked at is the program's story, too.
            self.same(self.ask(story_of, town, log, 120), due_story(town, log, 120))
        self.assertGreater(bare, 100)

    def test_the_events_one_by_one_come_to_the_state(self):
        for seed in range(150):
            town = busy_town(seed + 2000)
            events, state = self.ask(story_of, town, busy_log(seed, town, 35), 120)
            self.same(followed(events), state)
            self.same({name: due_at(town, state, name) for name, _, _, _ in state[3]},
                      {name: due_of(town, state, name) for name, _, _, _ in state[3]})

    def test_a_lesser_moment_is_the_beginning_of_a_greater_one(self):
        for seed in range(100):
            town = busy_town(seed)
            log = busy_log(seed, town, 30)
            whole = self.ask(story_of, town, log, 150)
            for until in random.Random(seed).sample(range(151), 12):
                events, state = self.ask(story_of, town, log, until)
                self.same(events, [event for event in whole[0] if event[0] <= until])
                self.same(followed(events), state)

    def test_what_is_told_ahead_comes(self):
        """What is told for later changes nothing until then."""
        for seed in range(100):
            town = busy_town(seed)
            log = busy_log(seed, town, 30)
            for until in [10, 45, 80]:
                self.same(self.ask(story_of, town, [row for row in log if row[0] <= until], until), self.ask(story_of, town, log, until))


if __name__ == "__main__":
    import unittest
    unittest.main()
