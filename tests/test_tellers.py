"""[33] the story by sheets, and what is refused."""

import copy
import random

from tests.samples import LONELY, SMALL, Case, nested, odd_things
from tests.secondpapers import due_refusal, other_sheets
from tests.secondstories import BEGUN, busy_log, busy_town, due_works
from tests.secondtrees import spoilt
from tests.test_moments import ROW
from tests.test_stories import LOG, shuffled
from wagoncalls.errors import NoPaper
from wagoncalls.sheets import sheets_of
from wagoncalls.stories import story_of
from wagoncalls.tellers import story_by


class Tellers(Case):
    def not_let(self, town, log, until, thing, word, at):
        refusal = self.refused(NoPaper, story_by, town, log, until, thing)
        self.same((refusal.word, refusal.at), (word, at))

    def with_sheet(self, sheets, at, *parts):
        """The sheets, of which one has these parts."""
        return [*sheets[:at], parts, *sheets[at + 1:]]


class ToldTests(Tellers):
    def test_by_the_told_sheets(self):
        for until in [0, 3, 20, 24, 899, 1000]:
            self.same(self.ask(story_by, ROW, LOG, until, sheets_of(ROW, LOG, until)), story_of(ROW, LOG, until))

    def test_no_work(self):
        for until in [0, 10 ** 6]:
            self.same(self.ask(story_by, SMALL, [], until, []), ([], BEGUN))
        self.same(self.ask(story_by, ROW, [(5, ("off", "w"))], 4, []), ([], BEGUN))

    def test_many(self):
        for seed in range(150):
            town = busy_town(seed)
            log = busy_log(seed, town, 30)
            works = due_works(town, log, 100)
            due = self.ask(story_of, town, log, 100)
            self.same(self.ask(story_by, town, shuffled(seed, log), 100, sheets_of(town, log, 100)), due)
            for hand in range(3):
                sheets = other_sheets(seed + hand, town, works)
                self.same(due_refusal(town, works, sheets), None)
                self.same(self.ask(story_by, town, log, 100, sheets), due)

    def test_what_is_told_hangs_on_no_sheet(self):
        sheets = sheets_of(ROW, LOG, 1000)
        told = story_by(ROW, LOG, 1000, sheets)
        for sheet in sheets:
            if sheet[2]:
                sheet[2].clear()
        sheets.clear()
        self.same(told, story_of(ROW, LOG, 1000))
        told[0].clear()
        self.same(story_by(ROW, LOG, 1000, sheets_of(ROW, LOG, 1000)), story_of(ROW, LOG, 1000))


class RefusedTests(Tellers):
    def setUp(self):
        self.sheets = sheets_of(ROW, LOG, 1000)

    def not_here(self, thing, word, at):
        self.same(due_refusal(ROW, due_works(ROW, LOG, 1000), thing), (word, at))
        self.not_let(ROW, LOG, 1000, thing, word, at)

    def test_no_list(self):
        for thing in [*odd_things(), tuple(self.sheets), dict(enumerate(self.sheets)), "sheets"]:
            if type(thing) is not list:
                self.not_let(ROW, LOG, 1000, thing, "shape", 0)
                self.not_let(ROW, [], 1000, thing, "shape", 0)
                self.not_let(LONELY, [(7, ("off", "w"))], 6, thing, "shape", 0)

    def test_no_such_sheet(self):
        for many in range(len(self.sheets)):
            self.not_here(self.sheets[:many], "shape", many)

    def test_no_tuple_of_four(self):
        for at in [0, 1, 5, 10]:
            sheet = self.sheets[at]
            for thing in [list(sheet), sheet[:3], sheet[:1], (*sheet, None), (*sheet, ("full",)), (sheet,), (), [], None, True, 0, "", "four",
                          dict(zip("abcd", sheet)), {0: sheet}, nested(list, 31), nested(tuple, 31)]:
                self.not_here([*self.sheets[:at], thing, *self.sheets[at + 1:]], "shape", at)

    def test_a_sheet_too_many(self):
        for more in [[self.sheets[-1]], [None], [()], [[]], [0, 1], [(901, *self.sheets[-1][1:])], [nested(list, 30)]]:
            self.not_here(self.sheets + more, "shape", 11)
            self.not_let(SMALL, [], 9, more, "shape", 0)

    def test_another_moment(self):
        for at, moment in enumerate([0, 4, 8, 12, 20, 22, 24, 30, 34, 38, 900]):
            for thing in [moment + 1, moment - 1, None, True, False, str(moment), "", "0:00", (moment,), [moment], 10 ** 60 - 1, {}]:
                self.not_here(self.with_sheet(self.sheets, at, thing, *self.sheets[at][1:]), "moment", at)

    def test_a_truth_for_a_moment(self):
        log = [(0, ("on", "w", "a")), (1, ("off", "w"))]
        sheets = sheets_of(LONELY, log, 1)
        self.not_let(LONELY, log, 1, self.with_sheet(sheets, 0, False, *sheets[0][1:]), "moment", 0)
        self.not_let(LONELY, log, 1, self.with_sheet(sheets, 1, True, *sheets[1][1:]), "moment", 1)

    def test_another_chart(self):
        for at in [0, 4, 6, 10]:
            moment, chart, plan, tree = self.sheets[at]
            others = [list(chart), tuple(list(row) for row in chart), chart[1:], (*chart, chart[0]), chart[::-1], None, (), "chart", 0,
                      (list(chart[0]), *chart[1:]), nested(tuple, 30), self.sheets[10 if at in (6,) else 6][1], {0: chart}]
            for goal in range(4):
                for begin in range(4):
                    number = chart[goal][begin]
                    for other in [None, 0, False, True, -1, "4", 10 ** 60 - 1, number and number + 1, number and number - 1]:
                        row = (*chart[goal][:begin], other, *chart[goal][begin + 1:])
                        others.append((*chart[:goal], row, *chart[goal + 1:]))
            for other in others:
                if repr(other) != repr(chart):
                    self.not_here(self.with_sheet(self.sheets, at, moment, other, plan, tree), "chart", at)

    def test_no_plan_or_another_one(self):
        things = [*odd_things(), (), (("v", "d"),), [["v", "d"]], [("v", "d", "d")], [("v",)], [("x", "d")], [("v", "c")], [("v", "a")],
                  [("v", "d"), ("v", "d")], [("w", "b"), ("v", "d")], [("v", "d"), ("w", "a")], [("v", ["d"])], [(True, "d")],
                  [("v", "d"), None], {"v": "d"}, [("w", "d")], [("v", "b")], [("v", "d"), ("w", "b")], [("v", "b"), ("w", "d")], [], None]
        for at in [0, 1, 4, 10]:
            moment, chart, plan, tree = self.sheets[at]
            for thing in things:
                if repr(thing) != repr(plan):
                    self.not_here(self.with_sheet(self.sheets, at, moment, chart, thing, tree), "moves", at)

    def test_a_tree_that_does_not_show_it(self):
        for at in [0, 1, 4, 10]:
            moment, chart, plan, _ = self.sheets[at]
            for thing in [*odd_things(), ("bare", "a"), ("bare", "b"), ("by", "c", ()), ("by", "d", ()), ("full", ()), ["full"],
                          nested(tuple, 30), nested(list, 30), nested(dict, 30), ("by", "c", nested(tuple, 29)), ("bare", nested(list, 29))]:
                self.not_here(self.with_sheet(self.sheets, at, moment, chart, plan, thing), "moves", at)

    def test_a_plan_where_there_is_none(self):
        # Of no wagon at all, nothing may be moved; of one, it isn't enough.
        for log in [[(5, ("off", "w"))], [(5, ("on", "w", "a"))], [(5, ("on", "w", "a")), (5, ("call", "c", "a", 1))]]:
            sheets = sheets_of(ROW, log, 5)
            self.same(sheets[0][2], None)
            for plan in [[], [("w", "d")], [("w", "b")], [("v", "d")]]:
                for tree in [sheets[0][3], ("full",)]:
                    self.not_let(ROW, log, 5, self.with_sheet(sheets, 0, *sheets[0][:2], plan, tree), "moves", 0)

    def test_of_two_wrong_things_the_first_goes_first(self):
        sheet = self.sheets[4]
        for other in [("x", None, 0, 0), (None, sheet[1], sheet[2], sheet[3]), (21, (), [], ())]:
            self.not_here(self.with_sheet(self.sheets, 4, *other), "moment", 4)
        for other in [(20, None, 0, 0), (20, sheet[1][::-1], sheet[2], ("full",))]:
            self.not_here(self.with_sheet(self.sheets, 4, *other), "chart", 4)
        self.not_here(self.with_sheet(self.sheets, 4, 20, sheet[1], 0, 0), "moves", 4)
        # The lesser sheet ahead of the greater.
        wrong = self.with_sheet(self.sheets, 4, 20, sheet[1], 0, 0)
        self.not_here(self.with_sheet(wrong, 5, None), "moves", 4)
        self.not_here(self.with_sheet(wrong, 3, 12, None, None, None), "chart", 3)
        self.not_here(wrong + [None], "moves", 4)
        self.not_here(wrong[:5], "moves", 4)
        self.not_here(wrong[:4], "shape", 4)

    def test_sheets_of_another_log_or_moment(self):
        self.not_let(ROW, LOG, 1000, sheets_of(ROW, LOG, 899), "shape", 10)
        self.not_let(ROW, LOG, 899, sheets_of(ROW, LOG, 1000), "shape", 10)
        self.not_let(ROW, LOG[1:], 1000, self.sheets, "moves", 0)
        self.not_let(ROW, LOG[:3] + LOG[4:], 1000, self.sheets, "moment", 5)
        self.not_let(ROW, [(22, ("shut", 1)) if row == (22, ("shut", 2)) else row for row in LOG], 1000, self.sheets, "chart", 5)

    def spoilt_sheet(self, chance, town, sheet):
        """A sheet with one thing put otherwise."""
        moment, chart, plan, tree = sheet
        moves = list(plan or [])
        stand, name = chance.choice(town[2]), chance.choice(["v", "w1", "w10", "w2", "x"])
        kind = chance.randrange(5)
        if kind == 0:
            return (chance.choice([moment + 1, moment - 1, bool(moment), str(moment), None, moment]), chart, plan, tree)
        if kind == 1:
            rows = [list(row) for row in chart]
            goal, begin = chance.randrange(len(rows)), chance.randrange(len(rows))
            rows[goal][begin] = chance.choice([None, (rows[goal][begin] or 0) + 1, 0, False])
            return (moment, tuple(tuple(row) for row in rows), plan, tree)
        if kind == 2:
            other = chance.choice([None, [], moves[1:], moves + [(name, stand)], sorted([*moves, (name, stand)]), moves[::-1], tuple(moves),
                                   [(name, stand)], [(wagon, stand) for wagon, _ in moves]])
            return (moment, chart, other, tree)
        if kind == 3:
            return (moment, chart, plan, spoilt(chance, town, tree, 1)[0])
        return chance.choice([None, list(sheet), sheet[:3], sheet + (None,), (), sheet])

    def test_many(self):
        seen = {}
        for seed in range(100):
            town = busy_town(seed)
            log = busy_log(seed, town, 25)
            works = due_works(town, log, 100)
            chance = random.Random(seed)
            for turn in range(25):
                sheets = other_sheets(turn, town, works) if turn % 2 else sheets_of(town, log, 100)
                for _ in range(chance.randint(1, 2)):
                    at = chance.randrange(len(sheets))
                    if isinstance(sheets[at], tuple) and len(sheets[at]) == 4:
                        sheets[at] = self.spoilt_sheet(chance, town, sheets[at])
                if chance.random() < 0.1:
                    sheets = chance.choice([sheets[:-1], sheets + [sheets[0]], tuple(sheets), sheets[::-1]])
                due = due_refusal(town, works, sheets)
                if due is None:
                    self.same(self.ask(story_by, town, log, 100, sheets), story_of(town, log, 100))
                else:
                    self.not_let(town, log, 100, sheets, *due)
                seen[due and due[0]] = seen.get(due and due[0], 0) + 1
        self.assertEqual(set(seen), {None, "shape", "moment", "chart", "moves"})
        self.assertGreater(min(seen.values()), 100)

    def test_what_is_handed_in_is_unchanged(self):
        things = [copy.deepcopy(self.sheets), self.sheets[:3], [], ["x"], [[0, (), None, ()]]]
        for thing in things[1:]:
            before = copy.deepcopy(thing)
            self.refused(NoPaper, story_by, ROW, LOG, 1000, thing)
            self.same(thing, before)
        story_by(ROW, LOG, 1000, things[0])
        self.same(things[0], self.sheets)


if __name__ == "__main__":
    import unittest
    unittest.main()
