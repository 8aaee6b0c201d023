"""[29] a day: told, gone on, refused; [30] amend and strike; [31] what is told of a day."""

import copy
import random

from tests.samples import LONELY, SMALL, Case, nested, odd_things
from tests.seconddays import SecondDay
from tests.secondstories import BEGUN, FREE, busy_log, busy_town
from tests.test_moments import ROW
from tests.test_stories import LOG, STORY, shuffled
from tests.test_tellings import due_telling
from wagoncalls import errors
from wagoncalls.days import Day
from wagoncalls.errors import Late, NoCall, NoLog, NoMoment, NoTelling, NoTown, TooMany
from wagoncalls.stories import story_of
from wagoncalls.towns import is_town

NO_MOMENTS = [None, True, False, -1, 10 ** 6 + 1, 10 ** 60 - 1, -(10 ** 60 - 1), "", "5", "0:05", [5], (5,), {5: 5}, [], (), {},
              "9" * 8000, nested(list, 32), nested(tuple, 32), nested(dict, 32)]
NO_TELLINGS = [None, True, "", "open 0", "open", ["open", 0], ("open",), ("open", 3), ("open", -1), ("open", True), ("open", False),
               ("open", "0"), ("on", "w"), ("on", "w", "c"), ("on", "W", "a"), ("grade", "c", True), ("grade", "c", 0),
               ("grade", "c", 6), ("call", "c", "e", 1), ("call", "c", "a", True), ("call", "c", "a", 1, 1), ("move", "w", "a"),
               (5, ("open", 0)), (), [], {}, {"open": 0}, nested(tuple, 32), nested(dict, 32), ("open", nested(list, 31))]


def all_of(day):
    """All that a day tells."""
    told = [day.town(), day.log(), day.now(), day.story(), day.state(), day.wagons()]
    told += [(call[0], day.served(call[0]), day.due(call[0])) for call in day.state()[3]]
    return told + [day.state_at(moment) for moment in range(0, 150) if day.now() is not None and moment <= day.now()]


def day_of(town, log, now=None):
    day = Day(town)
    for moment, telling in log:
        day.tell(moment, telling)
    if now is not None:
        day.go_to(now)
    return day


class Days(Case):
    def unchanged(self, day, refusal, method, *things):
        """What is refused changes nothing."""
        before = copy.deepcopy(all_of(day))
        self.refused(refusal, method, *things)
        self.same(all_of(day), before)


class TellTests(Days):
    def test_made_of_a_town(self):
        for town in [SMALL, LONELY, ROW]:
            self.same(all_of(self.ask(Day, town)), [town, [], None, [], BEGUN, []])
        no_towns = [list(SMALL), SMALL[:3], (*SMALL, 0), (*SMALL[:3], True), (*SMALL[:3], 121), ((), (), (), 0), "place a"]
        for thing in odd_things() + no_towns:
            self.assertFalse(is_town(thing))
            self.refused(NoTown, Day, thing)

    def test_new_and_known(self):
        day = Day(ROW)
        for moment, telling in LOG:
            self.same(self.ask(day.tell, moment, telling), True)
            self.same(self.ask(day.tell, moment, telling), False)
        self.same(day.log(), [LOG[1], LOG[0], *LOG[2:]])
        self.same(day.tell(21, LOG[0][1]), True)
        self.same(day.tell(0, ("on", "w", "b")), True)
        self.same((day.now(), day.story(), day.state()), (None, [], BEGUN))

    def test_of_things_of_every_kind(self):
        day = day_of(ROW, LOG[:2], 3)
        for thing in NO_MOMENTS:
            self.unchanged(day, NoMoment, day.tell, thing, ("open", 0))
            self.unchanged(day, NoMoment, day.amend, thing, ("open", 0))
            self.unchanged(day, NoLog, day.strike, thing, ("open", 0))
            for other in NO_TELLINGS:
                self.unchanged(day, NoMoment, day.tell, thing, other)
                self.unchanged(day, NoMoment, day.amend, thing, other)
                self.unchanged(day, NoLog, day.strike, thing, other)
        for thing in NO_TELLINGS + odd_things():
            self.assertFalse(due_telling(ROW, thing))
            for moment in [0, 3, 4, 10 ** 6]:
                self.unchanged(day, NoTelling, day.tell, moment, thing)
                self.unchanged(day, NoTelling, day.amend, moment, thing)
                self.unchanged(day, NoLog, day.strike, moment, thing)

    def test_truths_are_no_numbers(self):
        day = Day(ROW)
        for moment, telling in [(1, ("shut", 1)), (1, ("shut", 0)), (0, ("grade", "c", 1)), (1, ("call", "c", "a", 1))]:
            day.amend(moment, telling)
            self.unchanged(day, NoMoment, day.tell, bool(moment), telling)
            self.unchanged(day, NoMoment, day.amend, bool(moment), telling)
            self.unchanged(day, NoLog, day.strike, bool(moment), telling)
            self.unchanged(day, NoTelling, day.tell, moment, (*telling[:-1], bool(telling[-1])))
            self.unchanged(day, NoTelling, day.amend, moment, (*telling[:-1], bool(telling[-1])))
            self.unchanged(day, NoLog, day.strike, moment, (*telling[:-1], bool(telling[-1])))
        self.unchanged(day, NoMoment, day.go_to, True)
        self.unchanged(day, NoMoment, day.go_to, False)
        day.go_to(1)
        self.unchanged(day, NoMoment, day.go_to, True)
        self.unchanged(day, NoMoment, day.state_at, True)
        self.unchanged(day, NoMoment, day.state_at, False)
        self.same(day.state_at(1), day.state())

    def test_late(self):
        day = day_of(ROW, LOG, 20)
        for moment in [0, 19, 20]:
            self.unchanged(day, Late, day.tell, moment, ("open", 0))
        # Of one that the log has, too.
        self.unchanged(day, Late, day.tell, *LOG[0])
        self.unchanged(day, Late, day.tell, *LOG[2])
        self.same(day.tell(21, ("open", 0)), True)
        self.same(day.tell(*LOG[3]), False)
        day = day_of(ROW, [], 0)
        self.unchanged(day, Late, day.tell, 0, ("open", 0))
        self.same(day.tell(1, ("open", 0)), True)
        day.go_to(10 ** 6)
        self.unchanged(day, Late, day.tell, 10 ** 6, ("open", 0))

    def test_not_late_ahead_of_the_first_going_on(self):
        day = Day(ROW)
        self.same(day.tell(0, ("open", 0)), True)
        self.same(day.go_to(0), [(0, "passed", ("open", 0), "twice"), (0, "bare", ("a", "b", "c", "d"))])

    def test_too_many(self):
        log = [(moment, ("shut", road)) for moment in range(50) for road in range(2)]
        day = day_of(ROW, log[:99])
        self.same(day.tell(*log[98]), False)
        self.same(day.tell(*log[99]), True)
        self.same(len(day.log()), 100)
        self.unchanged(day, TooMany, day.tell, 0, ("shut", 2))
        self.unchanged(day, TooMany, day.amend, 0, ("shut", 2))
        # What the log has is known.
        self.same(day.tell(*log[0]), False)
        self.same(day.amend(*log[99]), ([], []))
        day.go_to(10)
        self.unchanged(day, TooMany, day.amend, 0, ("shut", 2))
        self.unchanged(day, TooMany, day.tell, 11, ("shut", 2))
        # One is struck out, another one has room.
        day.strike(*log[0])
        self.same(day.tell(11, ("shut", 2)), True)
        self.unchanged(day, TooMany, day.tell, 12, ("shut", 2))
        self.unchanged(day, TooMany, day.amend, *log[0])

    def test_which_refusal_goes_first(self):
        log = [(moment, ("shut", road)) for moment in range(50) for road in range(2)]
        day = day_of(ROW, log, 30)
        self.unchanged(day, NoMoment, day.tell, -1, ("shut", 3))
        self.unchanged(day, NoMoment, day.amend, -1, ("shut", 3))
        self.unchanged(day, NoTelling, day.tell, 30, ("shut", 3))
        self.unchanged(day, NoTelling, day.amend, 30, ("shut", 3))
        self.unchanged(day, Late, day.tell, 30, ("shut", 2))
        self.unchanged(day, Late, day.tell, *log[0])
        self.unchanged(day, TooMany, day.tell, 31, ("shut", 2))
        self.unchanged(day, TooMany, day.amend, 30, ("shut", 2))
        self.unchanged(day, NoLog, day.strike, 31, ("shut", 2))


class GoTests(Days):
    def test_goes_on(self):
        day = day_of(ROW, shuffled(3, LOG))
        before = -1
        for now in [0, 0, 3, 4, 7, 20, 21, 30, 33, 34, 899, 900, 901, 10 ** 6, 10 ** 6]:
            self.same(self.ask(day.go_to, now), [event for event in STORY if before < event[0] <= now])
            self.same(day.now(), now)
            self.same(day.story(), [event for event in STORY if event[0] <= now])
            self.same((day.story(), day.state()), story_of(ROW, LOG, now))
            before = now

    def test_the_first_going_on_tells_all(self):
        for now in [0, 22, 10 ** 6]:
            self.same(self.ask(day_of(ROW, LOG).go_to, now), [event for event in STORY if event[0] <= now])

    def test_to_a_lesser_moment(self):
        day = day_of(ROW, LOG, 30)
        for moment in [29, 20, 0]:
            self.unchanged(day, NoMoment, day.go_to, moment)
        self.same(day.go_to(30), [])

    def test_to_what_is_no_moment(self):
        for day in [Day(ROW), day_of(ROW, LOG, 0), day_of(ROW, LOG, 30)]:
            for thing in NO_MOMENTS:
                self.unchanged(day, NoMoment, day.go_to, thing)

    def test_told_between(self):
        day = day_of(ROW, LOG[:2], 12)
        for moment, telling in LOG[2:]:
            day.go_to(moment - 1)
            self.same(day.tell(moment, telling), True)
        day.go_to(900)
        self.same((day.story(), day.state()), (STORY, story_of(ROW, LOG, 900)[1]))
        self.same(all_of(day), all_of(day_of(ROW, LOG, 900)))


class AmendTests(Days):
    def amended(self, day, moment, telling, gone, come):
        was = day.story()
        told = self.ask(day.amend, moment, telling)
        self.assertIs(type(told), tuple)
        self.same(told, (gone, come))
        self.same(day.story(), was[:len(was) - len(gone)] + come)

    def test_in_time(self):
        day = day_of(ROW, LOG, 30)
        self.amended(day, 31, ("off", "w"), [], [])
        self.assertIn((31, ("off", "w")), day.log())
        self.assertIn((31, "told", ("off", "w")), day.go_to(31))
        day = day_of(ROW, LOG, 31)
        self.amended(day, 31, ("off", "w"), [], [(31, "told", ("off", "w"))])

    def test_late(self):
        day = day_of(ROW, LOG, 24)
        gone = [(22, "told", ("shut", 2)), (24, "there", "v", "c")]
        come = [(21, "told", ("done", "c")), (21, "moved", "v", "d"), (21, "bare", ()), (22, "told", ("shut", 2)), (22, "held", "v", "c"),
                (22, "bare", ("d",)), (24, "stands", "v", "c")]
        self.amended(day, 21, ("done", "c"), gone, come)
        self.same(day.state(), story_of(ROW, LOG + [(21, ("done", "c"))], 24)[1])
        self.same(day.now(), 24)
        self.unchanged(day, Late, day.tell, 24, ("off", "w"))

    def test_ahead_of_the_first_going_on(self):
        day = Day(ROW)
        for moment, telling in LOG:
            self.amended(day, moment, telling, [], [])
        self.same(day.strike(900, ("off", "v")), ([], []))
        self.same(day.go_to(899), STORY[:-2])
        self.same(day.go_to(10 ** 6)[:2], [STORY[-2], (900, "moved", "v", "d")])

    def test_known_changes_nothing(self):
        for now in [None, 0, 25, 1000]:
            day = day_of(ROW, LOG, now)
            before = all_of(day)
            for moment, telling in LOG:
                self.amended(day, moment, telling, [], [])
            self.same(all_of(day), before)

    def test_at_moments_of_works_between_and_ahead(self):
        log = [(10, ("on", "w", "a"))]
        for moment in [0, 9, 10, 11, 30]:
            day = day_of(LONELY, log, 30)
            self.ask(day.amend, moment, ("on", "v", "a"))
            self.same(all_of(day), all_of(day_of(LONELY, log + [(moment, ("on", "v", "a"))], 30)))
        day = day_of(LONELY, log, 30)
        self.amended(day, 5, ("done", "c"), [(10, "told", ("on", "w", "a"))],
                     [(5, "passed", ("done", "c"), "none"), (5, "bare", ("a",)), (10, "told", ("on", "w", "a")), (10, "bare", ())])

    def test_strike(self):
        day = day_of(ROW, LOG, 24)
        told = self.ask(day.strike, 22, ("shut", 2))
        self.same(told, ([(22, "told", ("shut", 2))] + STORY[12:13], STORY[12:13]))
        self.same(day.log(), [LOG[1], LOG[0], LOG[2], *LOG[4:]])
        self.unchanged(day, NoLog, day.strike, 22, ("shut", 2))
        self.same(self.ask(day.amend, 22, ("shut", 2)), (STORY[12:13], STORY[11:13]))
        self.same(all_of(day), all_of(day_of(ROW, LOG, 24)))
        # Of what is later than now, nothing yet.
        self.same(self.ask(day.strike, 30, ("done", "c")), ([], []))
        self.same(day.go_to(40), [])

    def test_strike_of_what_the_log_has_not(self):
        day = day_of(ROW, LOG, 24)
        for moment, telling in [(21, ("shut", 2)), (22, ("shut", 1)), (22, ("open", 2)), (0, ("on", "w", "b")), (1, ("on", "w", "a")),
                                (20, ("call", "c", "c", 2)), (20, ("call", "c", "d", 3)), (10 ** 6, ("off", "v"))]:
            self.unchanged(day, NoLog, day.strike, moment, telling)
        day = Day(ROW)
        self.unchanged(day, NoLog, day.strike, 0, ("on", "w", "a"))

    def test_strike_all(self):
        for now in [None, 24, 1000]:
            day = day_of(ROW, LOG, now)
            for moment, telling in LOG:
                self.ask(day.strike, moment, telling)
            self.same((day.log(), day.story(), day.state(), day.now()), ([], [], BEGUN, now))

    def test_of_none(self):
        day = day_of(LONELY, [(5, ("on", "w", "a"))], 9)
        self.same(self.ask(day.amend, 10, ("off", "w")), ([], []))
        self.same(self.ask(day.strike, 10, ("off", "w")), ([], []))
        self.same(self.ask(day.amend, 7, ("done", "c")), ([], [(7, "passed", ("done", "c"), "none")]))
        self.same(self.ask(day.strike, 7, ("done", "c")), ([(7, "passed", ("done", "c"), "none")], []))


class AskTests(Days):
    def test_without_now(self):
        day = day_of(ROW, LOG)
        self.same((day.now(), day.story(), day.state(), day.wagons()), (None, [], BEGUN, []))
        for moment in [*NO_MOMENTS, 0, 5, 10 ** 6]:
            self.unchanged(day, NoMoment, day.state_at, moment)
        self.same(self.refused(NoCall, day.served, "c").name, "c")
        self.same(self.refused(NoCall, day.due, "c").name, "c")

    def test_state_at(self):
        day = day_of(ROW, LOG, 35)
        for moment in range(36):
            self.same(self.ask(day.state_at, moment), story_of(ROW, LOG, moment)[1])
        for moment in [36, 37, 900, 10 ** 6, *NO_MOMENTS]:
            self.unchanged(day, NoMoment, day.state_at, moment)
        day = day_of(LONELY, [(7, ("on", "w", "a"))], 9)
        for moment, due in [(0, BEGUN), (6, BEGUN), (7, day.state()), (8, day.state()), (9, day.state())]:
            self.same(self.ask(day.state_at, moment), due)

    def test_wagons(self):
        day = day_of(LONELY, [(0, ("on", name, "a")) for name in ["w2", "w10", "b", "w1"]] + [(5, ("off", "w1"))], 4)
        self.same(self.ask(day.wagons), ["b", "w1", "w10", "w2"])
        day.go_to(5)
        self.same(self.ask(day.wagons), ["b", "w10", "w2"])

    def test_served_and_due(self):
        day = day_of(ROW, LOG[:5] + [(21, ("call", "w", "d", 5)), (21, ("call", "b", "a", 4))], 23)
        self.same([self.ask(day.served, name) for name in ["b", "c", "w"]], [("at", "w"), ("to", "v"), ("waits", None)])
        self.same([self.ask(day.due, name) for name in ["b", "c", "w"]], [None, 24, None])
        day.go_to(24)
        self.same([self.ask(day.served, name) for name in ["b", "c", "w"]], [("at", "w"), ("at", "v"), ("waits", None)])
        self.same(self.ask(day.due, "c"), None)
        day.go_to(30)
        self.refused(NoCall, day.served, "c")
        self.refused(NoCall, day.due, "c")
        day.strike(21, ("call", "w", "d", 5))
        self.refused(NoCall, day.due, "w")

    def test_served_and_due_of_anything(self):
        day = day_of(ROW, LOG, 22)
        for name in [*odd_things(), "v", "w", "b", "C", "c ", ["c"], ("c",), {"c": 1}, "c1"]:
            self.assertIs(self.refused(NoCall, day.served, name).name, name)
            self.assertIs(self.refused(NoCall, day.due, name).name, name)

    def test_due_is_when_it_is_there(self):
        day = day_of(SMALL, [(3, ("on", "w", "gate")), (3, ("call", "c", "dock", 1)), (4, ("call", "d", "dock", 1))], 3)
        self.same(self.ask(day.due, "c"), 11)
        day.go_to(10)
        self.same(self.ask(day.due, "c"), 11)
        self.same(self.ask(day.due, "d"), None)
        self.same(day.go_to(11), [(11, "there", "w", "c")])


class ManyTests(Days):
    def same_as(self, day, second, method, *things):
        due = getattr(second, method)(*things)
        if isinstance(due, str):
            self.refused(getattr(errors, due), getattr(day, method), *things)
        else:
            self.same(self.ask(getattr(day, method), *things), due)

    def deed(self, chance, day, second, log):
        moment, telling = chance.choice(log)
        kind = chance.choice(["tell", "tell", "tell", "go_to", "amend", "amend", "strike", "strike"])
        if kind == "go_to":
            self.same_as(day, second, kind, (day.now() or 0) + chance.choice([-1, 0, 1, 5, 5, 12]))
        elif kind == "strike" and day.log():
            self.same_as(day, second, kind, *chance.choice(day.log() + [(moment, telling)]))
        else:
            self.same_as(day, second, kind, moment, telling)

    def question(self, chance, day, second):
        kind = chance.choice(["town", "log", "now", "story", "state", "wagons", "state_at", "served", "due"])
        if kind == "state_at":
            self.same_as(day, second, kind, chance.randint(0, 60))
        elif kind in ("served", "due"):
            self.same_as(day, second, kind, chance.choice(["a", "b", "c1", "w1", "z"]))
        else:
            self.same_as(day, second, kind)

    def test_many(self):
        """Two days beside one another, each held against the second reading."""
        for seed in range(60):
            chance = random.Random(seed)
            towns = [busy_town(seed), busy_town(seed + 500)]
            logs = [busy_log(seed + at, town, 30, 40) for at, town in enumerate(towns)]
            days = [(Day(town), SecondDay(town)) for town in towns]
            for _ in range(60):
                at = chance.randrange(2)
                if chance.random() < 0.6:
                    self.deed(chance, *days[at], logs[at])
                else:
                    self.question(chance, *days[at])
            for day, second in days:
                self.same((day.log(), day.now(), day.story(), day.state()), (second.log(), second.now(), second.story(), second.state()))

    def test_whatever_order(self):
        """[3]: told in any order, in time or late, asked between or not, the day is the same."""
        for seed in range(60):
            town = busy_town(seed)
            log = busy_log(seed, town, 30, 60)
            chance = random.Random(seed)
            due = all_of(day_of(town, log, 70))
            day, nows = Day(town), sorted(chance.sample(range(71), 6))
            for moment, telling in shuffled(seed, log):
                if chance.random() < 0.15 and nows:
                    day.go_to(nows.pop(0))
                if chance.random() < 0.3:
                    all_of(day)
                if day.now() is not None and moment <= day.now():
                    day.amend(moment, telling)
                else:
                    day.tell(moment, telling)
            day.go_to(70)
            self.same(all_of(day), due)
            self.same((day.story(), day.state()), story_of(town, log, 70))

    def test_struck_out_is_as_if_it_had_not_been_told(self):
        for seed in range(60):
            town = busy_town(seed)
            log = busy_log(seed, town, 30, 60)
            struck = random.Random(seed).sample(log, 12)
            day = day_of(town, log, 65)
            for moment, telling in dict.fromkeys(struck):
                was = day.story()
                gone, come = day.strike(moment, telling)
                self.same(day.story(), was[:len(was) - len(gone)] + come)
                self.assertTrue(not gone or not come or gone[0] != come[0])
            self.same(all_of(day), all_of(day_of(town, [row for row in log if row not in struck], 65)))

    def test_what_is_told_is_the_askers_own(self):
        day = day_of(ROW, LOG, 30)
        due = copy.deepcopy(all_of(day))
        for told in [day.log(), day.story(), day.wagons(), day.go_to(30), *day.amend(31, ("off", "w")), *day.strike(31, ("off", "w"))]:
            told.append("x")
            told.reverse()
        events = day.amend(22, ("off", "w"))
        events[0].clear()
        events[1].clear()
        day.strike(22, ("off", "w"))[1].clear()
        self.same(all_of(day), due)
        events = day_of(ROW, LOG).go_to(30)
        self.same(events, day.story())


if __name__ == "__main__":
    import unittest
    unittest.main()
