"""[32] the sheets of a log."""

import copy

from tests.samples import LONELY, SMALL, Case
from tests.secondstories import busy_log, busy_town, due_chart, due_works
from tests.secondtrees import due_moves_tree
from tests.test_moments import ROW
from tests.test_stories import LOG, shuffled
from wagoncalls.chartchecks import lets_chart
from wagoncalls.sheets import sheets_of
from wagoncalls.trees import shows_moves
from wagoncalls.ways import chart_of


class SheetTests(Case):
    def right(self, town, log, until):
        """The sheets, held against the second reading."""
        works = due_works(town, log, until)
        told = self.ask(sheets_of, town, log, until)
        self.assertIs(type(told), list)
        self.same([sheet[:3] for sheet in told], [(state[0], chart, plan) for _, state, (chart, plan, _) in works])
        for sheet, (_, state, (chart, plan, rows)) in zip(told, works):
            self.assertIs(type(sheet), tuple)
            self.same(len(sheet), 4)
            self.assertTrue(lets_chart(town, state[1], sheet[1]))
            self.assertTrue(due_moves_tree(town, chart, rows, plan, sheet[3]))
            self.assertTrue(shows_moves(town, chart, rows, plan, sheet[3]))
        return told

    def test_a_log(self):
        told = self.right(ROW, LOG, 1000)
        self.same([sheet[0] for sheet in told], [0, 4, 8, 12, 20, 22, 24, 30, 34, 38, 900])
        self.same([sheet[2] for sheet in told], [[("v", "d")], [], [], [], None, None, None, None, None, None, None])
        # The roads shut in just that work, with what is told in it.
        self.same([sheet[1] for sheet in told], [due_chart(ROW, ())] * 5 + [due_chart(ROW, (2,))] * 5 + [due_chart(ROW, ())])
        self.same(told[0][3], self.right(ROW, LOG[:2], 0)[0][3])

    def test_a_log_without_tellings(self):
        for until in [0, 7, 10 ** 6]:
            self.same(self.ask(sheets_of, SMALL, [], until), [])
            self.same(self.ask(sheets_of, SMALL, [(10 ** 6, ("off", "w"))], min(until, 10 ** 6 - 1)), [])

    def test_without_free_wagons_there_is_no_plan(self):
        told = self.right(LONELY, [(5, ("off", "w")), (6, ("on", "w", "a")), (7, ("call", "c", "a", 1)), (8, ("done", "c"))], 9)
        self.same([sheet[2] for sheet in told], [None, [], None, []])
        self.same([sheet[3] for sheet in told], [("bare", "a"), ("full",), ("bare", "a"), ("full",)])

    def test_a_road_that_is_shut_and_one_that_is_opened(self):
        log = [(1, ("shut", 0)), (2, ("shut", 1)), (3, ("open", 0)), (3, ("shut", 0)), (4, ("open", 1)), (4, ("open", 0))]
        told = self.right(SMALL, log, 9)
        self.same([sheet[1] for sheet in told], [chart_of(SMALL, shut) for shut in [(0,), (0, 1), (0, 1), ()]])

    def test_until(self):
        whole = self.ask(sheets_of, ROW, LOG, 1000)
        for until in [0, 3, 4, 11, 12, 22, 23, 37, 38, 899, 900, 10 ** 6]:
            self.same(self.ask(sheets_of, ROW, LOG, until), [sheet for sheet in whole if sheet[0] <= until])

    def test_many(self):
        plans = {"none": 0, "moves": 0, "stays": 0}
        for seed in range(120):
            town = busy_town(seed)
            log = busy_log(seed, town, 10 + seed % 25)
            told = self.right(town, log, 110)
            self.same(self.ask(sheets_of, town, shuffled(seed, log), 110), told)
            for sheet in told:
                plans["none" if sheet[2] is None else "moves" if sheet[2] else "stays"] += 1
        self.assertGreater(min(plans.values()), 20)

    def test_what_is_told_is_the_askers_own(self):
        first = sheets_of(ROW, LOG, 1000)
        due = copy.deepcopy(first)
        for sheet in first:
            if sheet[2] is not None:
                sheet[2].append(None)
        first.clear()
        self.same(sheets_of(ROW, LOG, 1000), due)


if __name__ == "__main__":
    import unittest
    unittest.main()
