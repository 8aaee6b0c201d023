"""[35] the desk: its rows, their answers, what is refused, what is taken back."""

import random

from tests.samples import FULL, LONELY, SMALL, Case, odd_things
from tests.seconddesk import SecondDesk, clock, event_words
from tests.secondstories import busy_log, busy_town
from tests.test_logs import WRITTEN
from tests.test_moments import PAIR, ROW
from tests.test_stories import LOG, STORY
from wagoncalls import errors
from wagoncalls.desk import Desk
from wagoncalls.errors import Late, NoCall, NoDeed, NoLog, NoMoment, NoRow, NoTown, TooMany

QUESTIONS = ["wagons", "calls", "bare", "shut", "log", "now"]


def row_of(word, moment, telling):
    return f"{word} {clock(moment)} " + " ".join(str(part) for part in telling)


def all_of(desk):
    return [desk.say(row) for row in QUESTIONS]


class Desks(Case):
    def says(self, desk, *rows):
        for row, due in rows:
            with self.subTest(row=row):
                self.same(self.ask(desk.say, row), due)

    def unchanged(self, desk, refusal, *rows):
        """What is refused changes nothing and is no deed."""
        for row in rows:
            with self.subTest(row=row):
                before = all_of(desk)
                self.refused(refusal, desk.say, row)
                self.same(all_of(desk), before)

    def desk_of(self, town, log, now=None):
        desk = Desk(town)
        for moment, telling in log:
            self.same(desk.say(row_of("at", moment, telling)), "new")
        if now is not None:
            desk.say(f"until {clock(now)}")
        return desk


class AnswerTests(Desks):
    def test_made_of_a_town(self):
        for town in [SMALL, LONELY, FULL, ROW]:
            self.same(all_of(self.ask(Desk, town)), ["-"] * 6)
        for thing in [*odd_things(), list(SMALL), (*SMALL[:3], True), "place a\nstand a\nreach 0"]:
            self.refused(NoTown, Desk, thing)

    def test_at(self):
        desk = Desk(SMALL)
        for _, text in WRITTEN:
            self.says(desk, (f"at 1:05 {text}", "new"), (f"at 1:05 {text}", "known"), (f"at 1:06 {text}", "new"))
        self.says(desk, ("at 0:00 open 0", "new"), ("at 16666:40 open 0", "new"))
        self.same(desk.say("log").split("; ")[0], "0:00 open 0")
        self.same(desk.say("log").split("; ")[-1], "16666:40 open 0")

    def test_until(self):
        desk = self.desk_of(ROW, LOG)
        self.says(
            desk,
            ("until 0:04", "0:00 told on v a; 0:00 told on w a; 0:00 moved v d; 0:00 drives v 0 b 0:04; 0:04 drives v 1 c 0:08"),
            ("until 0:04", "-"), ("until 0:07", "-"),
            ("until 0:20", "0:08 drives v 2 d 0:12; 0:12 stands v d; 0:20 told call c c 3; 0:20 sent c v -; 0:20 bare c,d; "
                           "0:20 drives v 2 c 0:24"),
            ("now", "0:20"),
            ("until 14:59", "; ".join(event_words(event) for event in STORY[11:-2])),
            ("until 16666:40", "15:00 told open 2; 15:00 told off v"),
            ("now", "16666:40"),
        )

    def test_each_events_words(self):
        desk = Desk(ROW)
        self.says(
            desk,
            ("at 0:01 on w a", "new"), ("at 0:01 grade c 2", "new"), ("at 0:02 call c d 3", "new"), ("at 0:03 call e b 2", "new"),
            ("at 0:20 done e", "new"), ("at 0:21 shut 2", "new"), ("at 0:22 shut 1", "new"), ("at 0:22 shut 0", "new"),
            ("at 0:23 open 0", "new"), ("at 0:23 on v d", "new"), ("at 0:30 on v a", "new"),
            ("until 0:03", "0:01 told on w a; 0:01 passed grade c 2 none; 0:01 bare c,d; 0:02 told call c d 3; 0:02 sent c w -; "
                           "0:02 bare a,b,c,d; 0:02 drives w 0 b 0:06; 0:03 told call e b 2; 0:03 sent e w c"),
            ("until 0:20", "0:06 there w e; 0:20 told done e; 0:20 sent c w -; 0:20 drives w 1 c 0:24"),
            ("until 0:22", "0:21 told shut 2; 0:21 cut w c; 0:21 bare c,d; 0:22 told shut 0; 0:22 told shut 1; 0:22 held w c; "
                           "0:22 bare a,b,d"),
            ("until 1:00", "0:23 told open 0; 0:23 told on v d; 0:23 sent c v -; 0:23 there v c; 0:24 stands w c; 0:30 passed on v a twice"),
        )

    def test_moved_and_bare_of_none(self):
        self.says(Desk(ROW), ("at 0:05 on v a", "new"), ("at 0:06 on w a", "new"),
                  ("until 0:06", "0:05 told on v a; 0:05 bare c,d; 0:06 told on w a; 0:06 moved v d; 0:06 bare -; 0:06 drives v 0 b 0:10"))

    def test_amend_and_strike(self):
        desk = self.desk_of(ROW, LOG, 24)
        self.says(
            desk,
            ("amend 0:24 done x", "- / 0:24 passed done x none"), ("amend 0:24 done x", "- / -"), ("amend 0:25 done x", "- / -"),
            ("strike 0:25 done x", "- / -"), ("strike 0:24 done x", "0:24 passed done x none / -"),
            ("strike 0:22 shut 2", "0:22 told shut 2; 0:24 there v c / 0:24 there v c"),
            ("amend 0:22 shut 2", "0:24 there v c / 0:22 told shut 2; 0:24 there v c"),
            ("now", "0:24"),
        )
        desk = Desk(ROW)
        self.says(desk, ("amend 0:00 on w a", "- / -"), ("strike 0:00 on w a", "- / -"), ("log", "-"), ("now", "-"))

    def test_wagons(self):
        desk = Desk(ROW)
        self.says(desk, ("at 0:00 on w a", "new"), ("at 0:00 on v d", "new"), ("at 0:02 call c c 3", "new"), ("at 0:03 call e a 2", "new"),
                  ("wagons", "-"), ("until 0:01", "0:00 told on v d; 0:00 told on w a"),
                  ("wagons", "v d d d 0:00 free; w a a a 0:00 free"))
        desk.say("until 0:03")
        self.says(desk, ("wagons", "v d d c 0:06 to c; w a a a 0:00 at e"), ("calls", "c c 3 0:02 to v; e a 2 0:03 at w"))

    def test_calls(self):
        desk = Desk(ROW)
        self.says(desk, ("at 1:00 call c2 d 5", "new"), ("at 1:01 call c10 a 1", "new"), ("calls", "-"))
        desk.say("until 1:01")
        self.says(desk, ("calls", "c10 a 1 1:01 waits; c2 d 5 1:00 waits"))

    def test_bare_and_shut(self):
        desk = Desk(ROW)
        self.says(desk, ("at 0:00 shut 2", "new"), ("at 0:00 shut 0", "new"), ("at 0:01 on w a", "new"), ("shut", "-"), ("bare", "-"))
        desk.say("until 0:00")
        self.says(desk, ("shut", "0 2"), ("bare", "a b c d"))
        desk.say("until 0:01")
        self.says(desk, ("shut", "0 2"), ("bare", "b c d"))
        desk = Desk(FULL)
        for road in [10, 2, 17]:
            desk.say(f"at 0:00 shut {road}")
        desk.say("until 0:00")
        self.says(desk, ("shut", "2 10 17"))

    def test_due(self):
        desk = Desk(ROW)
        self.says(desk, ("at 0:58 on w a", "new"), ("at 0:58 call c d 3", "new"), ("at 0:58 call d a 4", "new"))
        desk.say("until 0:58")
        self.says(desk, ("due c", "1:10"), ("due d", "-"))
        desk.say("until 1:10")
        self.says(desk, ("due c", "-"), ("due d", "-"))
        self.same(self.refused(NoCall, desk.say, "due e").name, "e")
        self.same(self.refused(NoCall, desk.say, "due w").name, "w")

    def test_log(self):
        desk = self.desk_of(ROW, reversed(LOG))
        self.says(desk, ("log", "0:00 on v a; 0:00 on w a; 0:20 call c c 3; 0:22 shut 2; 0:30 done c; 15:00 open 2; 15:00 off v"))

    def test_way(self):
        desk = Desk(PAIR)
        self.says(desk, ("way a b", "1"), ("way b a", "1"), ("way a a", "here"), ("at 0:00 shut 1", "new"), ("way a b", "1"), ("way b a", "1"))
        desk.say("until 0:00")
        self.says(desk, ("way a b", "2"), ("way b a", "2"))
        desk = Desk(SMALL)
        self.says(desk, ("way gate dock", "0 1"), ("way dock gate", "-"), ("way dock dock", "here"), ("way mill gate", "0"))

    def test_moments_above_the_last_one(self):
        desk = Desk(PAIR)
        desk.say("at 16666:40 on w a")
        desk.say("at 16666:40 call c b 1")
        self.says(desk, ("until 16666:40", "16666:40 told on w a; 16666:40 told call c b 1; 16666:40 sent c w -; 16666:40 bare a,b; "
                                           "16666:40 drives w 1 b 16666:45"),
                  ("wagons", "w a a b 16666:45 to c"), ("due c", "16666:45"), ("calls", "c b 1 16666:40 to w"), ("now", "16666:40"))


class RefusedTests(Desks):
    def setUp(self):
        self.desk = self.desk_of(ROW, LOG, 20)

    def test_no_text(self):
        for thing in odd_things():
            if not isinstance(thing, str):
                self.unchanged(self.desk, NoRow, thing)
        self.unchanged(self.desk, NoRow, ["now"], ("now",), ["at", "0:30", "open", "0"])

    def test_other_texts(self):
        self.unchanged(self.desk, NoRow, *[thing for thing in odd_things() if isinstance(thing, str)])
        self.unchanged(self.desk, NoRow, "", "-", "here", "ok", "told", "day", "state", "story", "go_to 0:30", "tell 0:30 open 0", "AT 0:30 open 0",
                       "Now", "nows", "no", "undo undo", "deeds", "at", "until", "amend", "strike", "due", "way", "0:30 open 0", "open 0")

    def test_words_too_few_or_too_many(self):
        for row in ["at 0:30 call e c 3", "amend 0:30 on x a", "strike 0:22 shut 2", "until 0:30", "due c", "way a b"]:
            words = row.split(" ")
            self.unchanged(self.desk, NoRow, *[" ".join(words[:many]) for many in range(len(words))])
            for at in range(len(words)):
                self.unchanged(self.desk, NoRow, " ".join(words[:at] + words[at + 1:]))
            for at in range(len(words) + 1):
                for word in ["a", "0", "", "-", "now", "0:30"]:
                    self.unchanged(self.desk, NoRow, " ".join(words[:at] + [word] + words[at:]))
        for row in [*QUESTIONS, "undo"]:
            self.unchanged(self.desk, NoRow, row + " a", row + " 0", row + " " + row, "a " + row, row + " -")

    def test_blanks_and_line_feeds(self):
        for row in ["at 0:30 call e c 3", "amend 0:30 on x a", "strike 0:22 shut 2", "until 0:30", "due c", "way a b", *QUESTIONS, "undo"]:
            self.unchanged(self.desk, NoRow, " " + row, row + " ", row + "\n", "\n" + row, row + "\n" + row, row + ";", row + "; " + row)
            for at, sign in enumerate(row):
                if sign == " ":
                    self.unchanged(self.desk, NoRow, row[:at] + " " + row[at:], row[:at] + "\n" + row[at + 1:], row[:at] + row[at + 1:],
                                   row[:at] + "_" + row[at + 1:])
            self.unchanged(self.desk, NoRow, row.upper(), row.title())

    def test_strange_moments(self):
        for moment in ["30", "0:60", "0:3", "00:30", "0:030", "0.30", "0:30:0", ":30", "0:", ":", "-0:30", "+0:30", "0:-3", "16666:41", "16667:00",
                       "99999:00", "9" * 5000 + ":00", "0:" + "9" * 5000, "1_0:00", "a:00", "0:a0", "-", "now", "None"]:
            self.unchanged(self.desk, NoRow, f"at {moment} open 0", f"until {moment}", f"amend {moment} open 0", f"strike {moment} open 0")

    def test_strange_tellings(self):
        for word in ["at", "amend", "strike"]:
            self.unchanged(self.desk, NoRow, *[f"{word} 0:30 {text}" for text in [
                "open 3", "open -1", "open 00", "open 01", "open a", "open", "open " + "9" * 7000, "shut 0 1", "done", "done C", "done 1c", "done c,d",
                "done abcdefghi", "off -", "on w c", "on w", "on w a a", "on w e", "on a1234567b a", "grade c 0", "grade c 6", "grade c 03", "grade 3 c",
                "grade c " + "1" * 7000, "call c e 3", "call c c", "call c c 0", "call c c 33", "call c c 3 20", "told on w a", "close 0", "x", "-"]])

    def test_strange_names_and_places(self):
        self.unchanged(self.desk, NoRow, "due C", "due 1", "due c-1", "due abcdefghi", "due c;", "due " + "c" * 7000, "due -", "due 0:30")
        self.unchanged(self.desk, NoRow, "way a e", "way e a", "way a A", "way a 0", "way a -", "way 0 1", "way here a", "way a,b", "way a b c")

    def test_as_the_day_refuses(self):
        self.unchanged(self.desk, Late, "at 0:20 open 0", "at 0:00 on w a", "at 0:05 done x")
        self.unchanged(self.desk, NoMoment, "until 0:19", "until 0:00")
        self.unchanged(self.desk, NoLog, "strike 0:21 shut 2", "strike 0:22 shut 1", "strike 16666:40 off w")
        self.unchanged(self.desk, NoCall, "due d", "due v", "due w", "due abcdefgh")
        # A row that is none is refused as such, though it is late or not in the log, too.
        self.unchanged(self.desk, NoRow, "at 0:20 open 3", "strike 0:21 shut 3", "until 0:19 ")

    def test_too_many(self):
        desk = self.desk_of(ROW, [(moment, ("shut", road)) for moment in range(50) for road in range(2)], 3)
        self.unchanged(desk, TooMany, "at 1:00 open 0", "amend 0:03 open 0", "amend 0:00 shut 2")
        self.unchanged(desk, Late, "at 0:03 open 0")
        self.says(desk, ("at 0:49 shut 1", "known"), ("amend 0:00 shut 1", "- / -"))

    def test_none_of_these_is_a_deed(self):
        self.test_as_the_day_refuses()
        self.test_strange_moments()
        self.says(self.desk, ("undo", "ok"), ("now", "-"), ("wagons", "-"))


class UndoTests(Desks):
    def test_no_deed(self):
        desk = Desk(ROW)
        self.unchanged(desk, NoDeed, "undo")
        self.says(desk, ("now", "-"), ("way a b", "0"), ("log", "-"))
        self.unchanged(desk, NoDeed, "undo")
        self.refused(NoLog, desk.say, "strike 0:00 open 0")
        self.unchanged(desk, NoDeed, "undo")
        self.says(desk, ("at 0:00 open 0", "new"), ("undo", "ok"))
        self.unchanged(desk, NoDeed, "undo", "undo")

    def test_of_each_kind(self):
        desk = self.desk_of(ROW, LOG, 24)
        for row in ["at 0:25 open 1", "until 0:31", "amend 0:21 done c", "amend 0:00 off w", "strike 0:20 call c c 3", "strike 15:00 open 2"]:
            before = all_of(desk)
            desk.say(row)
            self.assertNotEqual(all_of(desk), before)
            self.says(desk, ("undo", "ok"))
            self.same(all_of(desk), before)

    def test_of_one_that_changed_nothing(self):
        desk = self.desk_of(ROW, LOG, 24)
        before = all_of(desk)
        for row, due in [("at 0:30 done c", "known"), ("until 0:24", "-"), ("amend 0:22 shut 2", "- / -")]:
            self.says(desk, (row, due))
        # Each of them is a deed: only the fourth one takes the going on back.
        self.says(desk, ("undo", "ok"), ("undo", "ok"), ("undo", "ok"))
        self.same(all_of(desk), before)
        self.says(desk, ("undo", "ok"), ("now", "-"))

    def test_questions_are_no_deeds(self):
        desk = self.desk_of(ROW, LOG, 24)
        all_of(desk)
        self.says(desk, ("way a d", "-"), ("due c", "-"), ("now", "0:24"), ("undo", "ok"), ("now", "-"))

    def test_one_by_one_down_to_none_and_told_again(self):
        desk = Desk(ROW)
        rows = [*[row_of("at", moment, telling) for moment, telling in LOG[:4]], "until 0:20", "amend 0:21 done c", "until 0:25",
                "strike 0:21 done c", "at 0:26 call d a 1", "until 0:40", "strike 0:00 on w a", "amend 0:00 on w b", "until 0:40"]
        other = Desk(ROW)
        answers = [other.say(row) for row in rows]
        for _ in range(2):
            whole = []
            for row, due in zip(rows, answers):
                whole.append(all_of(desk))
                self.says(desk, (row, due))
            for before in reversed(whole):
                self.says(desk, ("undo", "ok"))
                self.same(all_of(desk), before)
            self.unchanged(desk, NoDeed, "undo")

    def test_a_going_on_that_is_taken_back(self):
        desk = self.desk_of(ROW, LOG, 24)
        self.unchanged(desk, Late, "at 0:10 shut 0")
        self.says(desk, ("undo", "ok"), ("at 0:10 shut 0", "new"), ("now", "-"), ("wagons", "-"))
        # As if it hadn't been told: the going on tells all from the beginning again.
        self.assertTrue(desk.say("until 0:24").startswith("0:00 told on v a; 0:00 told on w a; "))
        self.says(desk, ("undo", "ok"), ("undo", "ok"), ("until 0:04", self.desk_of(ROW, LOG).say("until 0:04")))

    def test_undo_is_no_deed_itself(self):
        desk = Desk(LONELY)
        self.says(desk, ("at 0:01 on v a", "new"), ("at 0:02 on w a", "new"), ("undo", "ok"), ("log", "0:01 on v a"), ("undo", "ok"), ("log", "-"))
        self.unchanged(desk, NoDeed, "undo")


class ManyTests(Desks):
    def say_both(self, desk, second, row):
        due = second.say(row)
        if due in ("NoMoment", "Late", "TooMany", "NoLog", "NoCall", "NoDeed"):
            self.refused(getattr(errors, due), desk.say, row)
        else:
            self.same(self.ask(desk.say, row), due)

    def row(self, chance, town, log, now):
        kind = chance.choice(["at", "at", "at", "until", "amend", "amend", "strike", "strike", "undo", "undo", "way", "due", *QUESTIONS])
        if kind == "until":
            return f"until {clock(chance.randint(max(0, now - 1), now + 20))}"
        if kind in ("at", "amend", "strike"):
            return row_of(kind, *chance.choice(log))
        if kind == "way":
            return f"way {chance.choice(town[0])} {chance.choice(town[0])}"
        return kind + (" " + chance.choice(["a", "b", "c1", "c10", "w1", "z"])) * (kind == "due")

    def test_many(self):
        """Two desks beside one another, each held against the second reading."""
        for seed in range(60):
            chance = random.Random(seed)
            towns = [busy_town(seed), busy_town(seed + 700)]
            logs = [busy_log(seed + at, town, 20, 50) for at, town in enumerate(towns)]
            desks = [(Desk(town), SecondDesk(town)) for town in towns]
            for _ in range(70):
                at = chance.randrange(2)
                self.say_both(*desks[at], self.row(chance, towns[at], logs[at], (desks[at][1].day().now() or 0)))
            for desk, second in desks:
                for row in QUESTIONS:
                    self.say_both(desk, second, row)


if __name__ == "__main__":
    import unittest
    unittest.main()
