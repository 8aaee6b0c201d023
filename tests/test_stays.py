"""[34] the stays and the waits of a story."""

from tests.samples import LONELY, Case
from tests.secondpapers import due_stays, due_waits
from tests.secondstories import busy_log, busy_town
from tests.test_moments import PAIR, ROW
from tests.test_stories import LOG, STORY
from wagoncalls.stays import stays_of, waits_of
from wagoncalls.stories import story_of

ON = [(0, ("on", "w", "a"))]


class Stays(Case):
    def held(self, town, log, until, stays, waits):
        events = story_of(town, log, until)[0]
        self.same(self.ask(stays_of, events), stays)
        self.same(self.ask(waits_of, events), waits)
        self.same((stays, waits), (due_stays(events), due_waits(events)))
        return events


class EndTests(Stays):
    def test_none(self):
        self.same(self.ask(stays_of, []), [])
        self.same(self.ask(waits_of, []), [])
        self.held(ROW, [], 9, [], [])
        self.held(ROW, ON + [(5, ("done", "c")), (6, ("off", "v"))], 9, [], [])

    def test_a_log(self):
        self.same(stays_of(STORY), [("v", "c", 20, 24, 30)])
        self.same(waits_of(STORY), [("c", 20, 20, 24, 30)])
        self.held(ROW, LOG, 1000, [("v", "c", 20, 24, 30)], [("c", 20, 20, 24, 30)])

    def test_until_a_moment_amid(self):
        for until, stays, waits in [
                (19, [], []), (20, [("v", "c", 20, None, None)], [("c", 20, 20, None, None)]),
                (23, [("v", "c", 20, None, None)], [("c", 20, 20, None, None)]), (24, [("v", "c", 20, 24, None)], [("c", 20, 20, 24, None)]),
                (29, [("v", "c", 20, 24, None)], [("c", 20, 20, 24, None)]), (30, [("v", "c", 20, 24, 30)], [("c", 20, 20, 24, 30)])]:
            self.held(ROW, LOG, until, stays, waits)

    def test_done_ahead_of_being_there(self):
        self.held(ROW, ON + [(1, ("call", "c", "d", 1)), (3, ("done", "c"))], 99, [("w", "c", 1, None, 3)], [("c", 1, 1, None, 3)])
        # In the moment in which it is there.
        self.held(PAIR, ON + [(1, ("call", "c", "b", 1)), (6, ("done", "c"))], 99, [("w", "c", 1, 6, 6)], [("c", 1, 1, 6, 6)])

    def test_there_at_once(self):
        self.held(LONELY, ON + [(1, ("call", "c", "a", 1))], 9, [("w", "c", 1, 1, None)], [("c", 1, 1, 1, None)])
        self.held(LONELY, ON + [(0, ("call", "c", "a", 1)), (1, ("done", "c"))], 9, [("w", "c", 0, 0, 1)], [("c", 0, 0, 0, 1)])

    def test_never_ended(self):
        self.held(ROW, ON + [(1, ("call", "c", "d", 1))], 10 ** 6, [("w", "c", 1, 13, None)], [("c", 1, 1, 13, None)])
        self.held(ROW, ON + [(1, ("call", "c", "d", 1))], 12, [("w", "c", 1, None, None)], [("c", 1, 1, None, None)])

    def test_left_for_a_graver_call(self):
        log = ON + [(1, ("call", "c", "d", 3)), (2, ("call", "e", "b", 2))]
        self.held(ROW, log, 99, [("w", "c", 1, None, 2), ("w", "e", 2, 5, None)], [("c", 1, 1, None, None), ("e", 2, 2, 5, None)])
        # In one work, one behind the other: the call that is left is graver than another one's.
        log = [(0, ("on", "v", "a")), (0, ("on", "w", "d")), (1, ("call", "c", "c", 3)), (1, ("call", "b", "b", 4)), (2, ("call", "a", "c", 1))]
        self.held(ROW, log, 99, [("w", "c", 1, None, 2), ("v", "b", 1, None, 2), ("w", "a", 2, 5, None), ("v", "c", 2, 9, None)],
                  [("b", 1, 1, None, None), ("c", 1, 1, 9, None), ("a", 2, 2, 5, None)])

    def test_cut_off(self):
        log = ON + [(1, ("call", "c", "d", 1)), (2, ("shut", 2))]
        self.held(ROW, log, 99, [("w", "c", 1, None, 2)], [("c", 1, 1, None, None)])
        # Sent again, once the road is opened: of the call the first sending is told, and when one is there.
        log += [(3, ("open", 2))]
        self.held(ROW, log, 99, [("w", "c", 1, None, 2), ("w", "c", 3, 13, None)], [("c", 1, 1, 13, None)])
        # Cut off and sent in one work.
        log = ON + [(1, ("call", "c", "d", 1)), (2, ("shut", 2)), (2, ("call", "e", "b", 1))]
        self.held(ROW, log, 99, [("w", "c", 1, None, 2), ("w", "e", 2, 5, None)], [("c", 1, 1, None, None), ("e", 2, 2, 5, None)])

    def test_off(self):
        log = ON + [(1, ("call", "c", "d", 1)), (2, ("off", "w")), (3, ("on", "w", "b"))]
        self.held(ROW, log, 99, [("w", "c", 1, None, 2), ("w", "c", 3, 11, None)], [("c", 1, 1, 11, None)])
        # One that was passed over ends nothing.
        log = ON + [(1, ("call", "c", "a", 1)), (2, ("off", "w")), (2, ("off", "c")), (3, ("done", "w")), (4, ("done", "c"))]
        self.held(ROW, log, 99, [("w", "c", 1, 1, 4)], [("c", 1, 1, 1, 4)])

    def test_a_name_that_is_a_later_calls_or_wagons(self):
        log = ON + [(1, ("call", "c", "b", 1)), (9, ("done", "c")), (9, ("call", "c", "c", 2)), (20, ("done", "c")), (30, ("call", "c", "b", 3))]
        self.held(ROW, log, 99, [("w", "c", 1, 5, 9), ("w", "c", 9, 13, 20), ("w", "c", 30, 34, None)],
                  [("c", 1, 1, 5, 9), ("c", 9, 9, 13, 20), ("c", 30, 30, 34, None)])
        # In the work in which it ended, another one of its name begins.
        log = ON + [(1, ("call", "w", "d", 1)), (2, ("done", "w")), (2, ("call", "w", "a", 1)), (2, ("off", "w")), (2, ("on", "w", "d"))]
        self.held(ROW, log, 13, [("w", "w", 1, None, 2), ("w", "w", 2, None, None)], [("w", 1, 1, None, 2), ("w", 2, 2, None, None)])
        self.held(ROW, log, 14, [("w", "w", 1, None, 2), ("w", "w", 2, 14, None)], [("w", 1, 1, None, 2), ("w", 2, 2, 14, None)])

    def test_wagons_and_calls_of_one_name(self):
        log = [(0, ("on", "c", "a")), (1, ("call", "c", "b", 1)), (2, ("call", "w", "d", 1)), (3, ("on", "w", "d")), (9, ("done", "w")), (9, ("off", "w"))]
        self.held(ROW, log, 99, [("c", "c", 1, 5, None), ("w", "w", 3, 3, 9)], [("c", 1, 1, 5, None), ("w", 2, 3, 3, 9)])

    def test_calls_that_were_passed_over(self):
        log = ON + [(1, ("call", "c", "a", 1)), (2, ("call", "c", "b", 1)), (3, ("done", "c")), (4, ("done", "c")), (4, ("grade", "c", 1))]
        self.held(ROW, log, 99, [("w", "c", 1, 1, 3)], [("c", 1, 1, 1, 3)])
        log = [(0, ("call", f"c{number}", "a", 1)) for number in range(12)]
        self.held(LONELY, log, 9, [], [(f"c{number}", 0, None, None, None) for number in [0, 1, 10, 11, 2, 3, 4, 5, 6, 7]])

    def test_a_call_to_which_none_is_sent(self):
        self.held(ROW, [(5, ("call", "c", "a", 1)), (6, ("call", "b", "b", 1)), (7, ("done", "c"))], 9, [],
                  [("c", 5, None, None, 7), ("b", 6, None, None, None)])

    def test_calls_of_one_moment_stand_in_the_storys_order(self):
        log = [(5, ("call", "c", "a", 1)), (5, ("call", "b", "a", 5)), (5, ("call", "a", "a", 3)), (6, ("on", "w", "a")), (6, ("on", "v", "b"))]
        self.held(ROW, log, 9, [("w", "c", 6, 6, None), ("v", "a", 6, None, None)],
                  [("a", 5, 6, None, None), ("b", 5, None, None, None), ("c", 5, 6, 6, None)])

    def test_what_is_told_is_the_askers_own(self):
        events = list(STORY)
        for function in [stays_of, waits_of]:
            told = self.ask(function, events)
            due = list(told)
            told.clear()
            self.same(function(events), due)
        kept = stays_of(events)
        events.clear()
        self.same(kept, [("v", "c", 20, 24, 30)])


class ManyTests(Stays):
    def test_many(self):
        seen = {"again": 0, "over": 0, "never": 0, "there": 0, "left": 0}
        for seed in range(300):
            town = busy_town(seed)
            events = story_of(town, busy_log(seed, town, 20 + seed % 30), 60 + seed % 60)[0]
            stays, waits = self.ask(stays_of, events), self.ask(waits_of, events)
            self.same((stays, waits), (due_stays(events), due_waits(events)))
            seen["again"] += len({stay[:2] for stay in stays}) < len(stays)
            seen["over"] += any(wait[4] is not None for wait in waits)
            seen["never"] += any(stay[3] is None and stay[4] is None for stay in stays)
            seen["there"] += any(stay[3] is not None for stay in stays)
            seen["left"] += any(event[1] == "sent" and event[4] for event in events)
        self.assertGreater(min(seen.values()), 20)


if __name__ == "__main__":
    import unittest
    unittest.main()
