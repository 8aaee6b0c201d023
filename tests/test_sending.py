"""[20] which wagons are cut off, which are sent; [3] what holds behind it."""

import itertools

from tests.samples import LONELY, SMALL, Case, random_shut, random_town
from tests.secondwagons import due_cut, due_far, due_may, due_sendings, due_waiting, random_traffic
from wagoncalls.sending import cut_off, sendings
from wagoncalls.ways import chart_of

FREE = ("free",)
STAR = (("h", "p1", "p2", "p3"), (("h", "p1", 1, 1), ("h", "p2", 2, 2), ("h", "p3", 3, 3)), ("h", "p1"), 5)
STAR_CHART = chart_of(STAR, ())


def wagon(name, place, task=FREE, moment=0):
    return (name, "h", "p2", place, moment, task)


class CutTests(Case):
    WAGONS = [
        ("a", "gate", "mill", "gate", 3, ("to", "x")), ("b", "dock", "mill", "mill", 4, ("to", "y")),
        ("c", "dock", "gate", "dock", 5, ("at", "z")), ("d", "gate", "dock", "dock", 6, FREE),
    ]
    CALLS = [("u", "gate", 1, 0), ("x", "dock", 1, 0), ("y", "gate", 2, 0), ("z", "dock", 3, 0)]

    def cut(self, shut, due):
        told = self.ask(cut_off, SMALL, chart_of(SMALL, shut), self.WAGONS, self.CALLS)
        self.assertIs(type(told), tuple)
        self.same(told[0], due)
        self.same(told, due_cut(SMALL, chart_of(SMALL, shut), self.WAGONS, self.CALLS))
        tuples = self.ask(cut_off, SMALL, chart_of(SMALL, shut), tuple(self.WAGONS), tuple(self.CALLS))
        self.same(tuples, told)
        return told[1]

    def test_none(self):
        self.same(self.cut((), []), self.WAGONS)
        self.same(self.ask(cut_off, LONELY, ((0,),), [], []), ([], []))
        self.same(self.ask(cut_off, LONELY, ((0,),), (), ()), ([], []))
        self.same(self.ask(cut_off, LONELY, ((0,),), (), (("c", "a", 1, 0),)), ([], []))

    def test_by_a_shut_road(self):
        behind = self.cut((1,), [("a", "x")])
        self.same(behind, [("a", "gate", "gate", "gate", 3, FREE)] + self.WAGONS[1:])

    def test_several_at_once(self):
        behind = self.cut((0,), [("a", "x"), ("b", "y")])
        self.same(behind, [("a", "gate", "gate", "gate", 3, FREE), ("b", "dock", "dock", "mill", 4, FREE)] + self.WAGONS[2:])
        self.same(self.cut((0, 1), [("a", "x"), ("b", "y")]), behind)

    def test_at_the_place_of_its_call(self):
        wagons = [("w", "a", "a", "a", 5, ("to", "c"))]
        self.same(self.ask(cut_off, LONELY, ((0,),), wagons, [("c", "a", 5, 0)]), ([], wagons))

    def test_one_that_is_at_a_call_is_not_cut_off(self):
        wagons = [("w", "gate", "gate", "dock", 5, ("at", "c"))]
        self.same(self.ask(cut_off, SMALL, chart_of(SMALL, (0, 1)), wagons, [("c", "dock", 5, 0)]), ([], wagons))

    def test_one_way_only(self):
        wagons = [("v", "gate", "mill", "dock", 0, ("to", "c")), ("w", "gate", "mill", "mill", 0, ("to", "d"))]
        calls = [("c", "mill", 1, 0), ("d", "dock", 1, 0)]
        told = self.ask(cut_off, SMALL, chart_of(SMALL, ()), wagons, calls)
        self.same(told, ([("v", "c")], [("v", "gate", "gate", "dock", 0, FREE), wagons[1]]))

    def test_lists_told_are_the_askers_own(self):
        wagons = list(self.WAGONS)
        chart = chart_of(SMALL, (1,))
        told = cut_off(SMALL, chart, wagons, self.CALLS)
        due = due_cut(SMALL, chart, wagons, self.CALLS)
        self.assertIsNot(told[1], wagons)
        self.assertIsNot(cut_off(SMALL, chart_of(SMALL, ()), wagons, self.CALLS)[1], wagons)
        told[0].clear()
        told[1].reverse()
        self.same(wagons, self.WAGONS)
        self.same(cut_off(SMALL, chart, wagons, self.CALLS), due)

    def test_many(self):
        told = {0: 0, 1: 0, 2: 0}
        for seed in range(800):
            town = random_town(seed, 6, 8)
            chart = chart_of(town, random_shut(seed, town))
            wagons, calls = random_traffic(seed, town)
            due = due_cut(town, chart, wagons, calls)
            self.same(self.ask(cut_off, town, chart, wagons, calls), due)
            self.same(self.ask(cut_off, town, chart, tuple(wagons), tuple(calls)), due)
            told[min(2, len(due[0]))] += 1
        self.assertGreater(min(told.values()), 50)


class SendingTests(Case):
    def sent(self, wagons, calls, due, now=0):
        """The wagons behind the sendings that are due."""
        told = self.ask(sendings, STAR, STAR_CHART, now, wagons, calls)
        self.assertIs(type(told), tuple)
        self.same(told[0], due)
        self.same(told, due_sendings(STAR, STAR_CHART, now, wagons, calls))
        self.same(self.ask(sendings, STAR, STAR_CHART, now, tuple(wagons), tuple(calls)), told)
        return told[1]

    def test_none(self):
        self.same(self.ask(sendings, LONELY, ((0,),), 0, [], []), ([], []))
        self.same(self.ask(sendings, LONELY, ((0,),), 0, (), ()), ([], []))
        self.same(self.sent([], [("c", "h", 1, 0)], []), [])
        self.same(self.sent([wagon("w", "p1")], [], []), [wagon("w", "p1")])
        wagons = [wagon("v", "h", ("at", "c")), wagon("w", "p1", ("to", "d"))]
        self.same(self.sent(wagons, [("c", "h", 5, 0), ("d", "p2", 2, 0)], []), wagons)
        self.same(self.sent(wagons, [("c", "h", 5, 0), ("d", "p2", 2, 0), ("e", "h", 2, 0)], []), wagons)

    def test_one(self):
        behind = self.sent([wagon("v", "p3"), wagon("w", "p1", FREE, 1)], [("c", "h", 1, 0)], [("c", "w", None)])
        self.same(behind, [wagon("v", "p3"), wagon("w", "p1", ("to", "c"), 1)])

    def test_home_post_place_and_moment_stay(self):
        wagons = [("v", "p1", "p3", "p2", 77, FREE), ("w", "h", "p1", "p3", 5, ("to", "d"))]
        calls = [("b", "p2", 1, 0), ("c", "p3", 1, 1), ("d", "h", 2, 0)]
        behind = self.sent(wagons, calls, [("b", "w", "d"), ("c", "v", None)], 70)
        self.same(behind, [("v", "p1", "p3", "p2", 77, ("to", "c")), ("w", "h", "p1", "p3", 5, ("to", "b"))])

    def test_the_graver_calls_first_then_the_elder_then_by_name(self):
        free = [wagon("w", "h")]
        self.same(self.sent(free, [("a", "h", 2, 0), ("b", "p3", 1, 5)], [("b", "w", None)]), [wagon("w", "h", ("to", "b"))])
        self.sent(free, [("a", "h", 2, 1), ("b", "p3", 2, 0)], [("b", "w", None)])
        self.sent(free, [("a", "p3", 2, 1), ("b", "h", 2, 1)], [("a", "w", None)])
        self.sent(free, [("c1", "p3", 2, 1), ("c10", "h", 2, 1), ("c2", "h", 2, 1)], [("c1", "w", None)])

    def test_each_wagon_once(self):
        wagons = [wagon("u", "p1"), wagon("v", "p2"), wagon("w", "p3")]
        calls = [("a", "h", 3, 0), ("b", "h", 2, 0), ("c", "p3", 1, 0), ("d", "h", 4, 0)]
        self.sent(wagons, calls, [("c", "w", None), ("b", "u", None), ("a", "v", None)])

    def test_a_chain(self):
        wagons = [wagon("u", "h", ("to", "b")), wagon("v", "p1", ("to", "c")), wagon("w", "p2", ("to", "d"))]
        calls = [("a", "h", 1, 0), ("b", "p1", 2, 0), ("c", "p2", 3, 0), ("d", "p3", 4, 0)]
        behind = self.sent(wagons, calls, [("a", "u", "b"), ("b", "v", "c"), ("c", "w", "d")])
        self.same([row[5][1] for row in behind], ["a", "b", "c"])
        # A free one far away takes the last of them.
        behind = self.sent(wagons + [wagon("x", "p3", FREE, 50)], calls, [("a", "u", "b"), ("b", "v", "c"), ("c", "w", "d"), ("d", "x", None)])
        self.same([row[5][1] for row in behind], ["a", "b", "c", "d"])

    def test_one_wagon_is_sent_over_only_for_graver_calls(self):
        wagons = [wagon("w", "h", ("to", "e"))]
        for grade, due in [(1, [("c", "w", "e")]), (2, [("c", "w", "e")]), (3, []), (4, []), (5, [])]:
            self.sent(wagons, [("c", "h", grade, 0), ("e", "h", 3, 9)], due)

    def test_a_call_that_is_looked_at_and_gets_none(self):
        calls = [("a", "p1", 1, 0), ("b", "p2", 1, 0), ("c", "p3", 2, 0), ("d", "h", 3, 0)]
        wagons = [wagon("v", "p1", ("to", "a")), wagon("w", "p3", ("to", "d"))]
        self.sent(wagons, calls, [("b", "w", "d")])
        wagons = [wagon("v", "p1", ("to", "a")), wagon("w", "p2", ("to", "b"))]
        self.sent(wagons, calls, [])
        # The first one has no way from any wagon, the next one has.
        told = self.ask(sendings, SMALL, chart_of(SMALL, ()), 0, [("w", "dock", "dock", "dock", 0, FREE)],
                        [("a", "gate", 1, 0), ("b", "mill", 2, 0), ("c", "dock", 3, 0)])
        self.same(told, ([("c", "w", None)], [("w", "dock", "dock", "dock", 0, ("to", "c"))]))

    def test_nothing_is_cut_off_here(self):
        wagons = [("w", "gate", "mill", "dock", 0, ("to", "c"))]
        calls = [("c", "gate", 1, 0), ("d", "dock", 1, 0)]
        self.same(self.ask(sendings, SMALL, chart_of(SMALL, ()), 0, wagons, calls), ([], wagons))

    def test_moments_to_come_count(self):
        wagons = [wagon("v", "h", FREE, 104), wagon("w", "p3", FREE, 100)]
        self.sent(wagons, [("c", "h", 1, 0)], [("c", "w", None)], 100)
        self.sent(wagons, [("c", "h", 1, 0)], [("c", "v", None)], 101)
        self.sent(wagons, [("c", "h", 1, 0)], [("c", "w", None)], 0)

    def test_ten_calls_and_five_wagons(self):
        wagons = [wagon(f"w{at}", "h", ("to", f"c{9 - at}")) for at in range(5)]
        calls = [(f"c{at}", "h", 1 + at // 2, 0) for at in range(10)]
        # The calls c4 and c5 are of one grade.
        self.sent(wagons, calls, [(f"c{at}", f"w{at}", f"c{9 - at}") for at in range(4)])

    def test_lists_told_are_the_askers_own(self):
        wagons, calls = [wagon("v", "p3"), wagon("w", "p1")], [("c", "h", 1, 0)]
        first = sendings(STAR, STAR_CHART, 0, wagons, calls)
        due = due_sendings(STAR, STAR_CHART, 0, wagons, calls)
        first[0].append(None)
        first[1].clear()
        self.same(wagons, [wagon("v", "p3"), wagon("w", "p1")])
        self.same(sendings(STAR, STAR_CHART, 0, wagons, calls), due)
        none = sendings(STAR, STAR_CHART, 0, wagons, [])
        self.assertIsNot(none[1], wagons)
        wagons.pop()
        self.same(none, ([], [wagon("v", "p3"), wagon("w", "p1")]))

    def holds(self, town, chart, before, calls, told):
        """[3]: what holds behind sendings."""
        sent, behind = told
        named = [row[5][1] for row in behind if row[5] != FREE]
        self.assertEqual(len(named), len(set(named)))
        self.assertEqual([row[:5] for row in behind], [row[:5] for row in before])
        for row in before:
            if row[5][0] == "at":
                self.assertIn(row, behind)
        for name in due_waiting(behind, calls):
            place = [call[1] for call in calls if call[0] == name][0]
            for row in behind:
                if due_may(calls, row, name):
                    self.assertIsNone(due_far(town, chart, 100, row, place))
        self.assertEqual(len({call for call, _, _ in sent}), len(sent))

    def test_many(self):
        told = {"none": 0, "one": 0, "left": 0, "more": 0}
        for seed in range(1500):
            town = random_town(seed, 6, 9, 9)
            chart = chart_of(town, random_shut(seed, town))
            wagons, calls = random_traffic(seed, town, 2 + seed % 4)
            now = [100, 100, 0, 97, 1000][seed % 5]
            whole = self.ask(sendings, town, chart, now, wagons, calls)
            self.same(whole, due_sendings(town, chart, now, wagons, calls))
            self.same(self.ask(sendings, town, chart, now, tuple(wagons), tuple(calls)), whole)
            self.holds(town, chart, wagons, calls, whole)
            cut, behind = cut_off(town, chart, wagons, calls)
            self.holds(town, chart, behind, calls, sendings(town, chart, now, behind, calls))
            told["none"] += not whole[0]
            told["one"] += len(whole[0]) == 1
            told["more"] += len(whole[0]) > 1
            told["left"] += any(left for _, _, left in whole[0])
        self.assertGreater(min(told.values()), 100)

    def test_asked_by_turns(self):
        towns = [random_town(seed, 5, 7, 9) for seed in range(30)]
        asked = [(town, chart_of(town, ()), 100, *random_traffic(seed, town)) for seed, town in enumerate(towns)]
        first = [sendings(*things) for things in asked]
        for things, other in itertools.product(asked[:5], asked):
            sendings(*other)
            self.same(sendings(*things), first[asked.index(things)])


if __name__ == "__main__":
    import unittest
    unittest.main()
