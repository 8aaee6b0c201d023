"""[17] to [19] how far wagons are, which calls wait, which wagon may be sent, which one is chosen."""

import copy
import itertools

from tests.samples import LONELY, SMALL, TEN_PLACES, Case, random_shut, random_town
from tests.secondwagons import due_chosen, due_far, due_may, due_waiting, random_traffic
from wagoncalls.wagons import chosen, far, may_be_sent, waiting
from wagoncalls.ways import chart_of

FREE = ("free",)
# From gate to mill 5, back 7; from mill to dock 3, never back.
CHART = chart_of(SMALL, ())
# The hub h, and places 1, 2, 3 minutes from it, each way.
STAR = (("h", "p1", "p2", "p3"), (("h", "p1", 1, 1), ("h", "p2", 2, 2), ("h", "p3", 3, 3)), ("h",), 5)
STAR_CHART = chart_of(STAR, ())


def free(name, place, moment=0):
    return (name, "h", "h", place, moment, FREE)


def to(name, place, call, moment=0):
    return (name, "h", "h", place, moment, ("to", call))


def at(name, place, call, moment=0):
    return (name, "h", "h", place, moment, ("at", call))


class FarTests(Case):
    def test_moments_ahead_of_now_now_itself_and_behind_it(self):
        for moment, due in [(0, 8), (99, 8), (100, 8), (101, 9), (107, 15), (10 ** 6, 10 ** 6 - 92), (10 ** 6 + 60, 10 ** 6 - 32)]:
            self.same(self.ask(far, SMALL, CHART, 100, ("w", "gate", "gate", "gate", moment, FREE), "dock"), due)

    def test_minutes_from_the_wagons_place(self):
        for place, goal, due in [
            ("gate", "gate", 0), ("gate", "mill", 5), ("gate", "dock", 8), ("mill", "gate", 7), ("mill", "mill", 0),
            ("mill", "dock", 3), ("dock", "gate", None), ("dock", "mill", None), ("dock", "dock", 0),
        ]:
            for post in SMALL[0]:
                for home in SMALL[2]:
                    wagon = ("w", home, post, place, 100, FREE)
                    self.same(self.ask(far, SMALL, CHART, 100, wagon, goal), due)
                    later = ("w", home, post, place, 104, FREE)
                    self.same(self.ask(far, SMALL, CHART, 100, later, goal), None if due is None else due + 4)

    def test_the_own_place(self):
        self.same(self.ask(far, LONELY, ((0,),), 7, ("w", "a", "a", "a", 0, FREE), "a"), 0)
        self.same(self.ask(far, LONELY, ((0,),), 7, ("w", "a", "a", "a", 7, FREE), "a"), 0)
        self.same(self.ask(far, LONELY, ((0,),), 7, ("w", "a", "a", "a", 9, FREE), "a"), 2)

    def test_whatever_the_task(self):
        for task in [FREE, ("to", "c"), ("at", "c")]:
            self.same(self.ask(far, SMALL, CHART, 3, ("w", "gate", "gate", "mill", 5, task), "gate"), 9)
            self.same(self.ask(far, SMALL, CHART, 3, ("w", "gate", "gate", "mill", 1, task), "mill"), 0)
            self.same(self.ask(far, SMALL, CHART, 3, ("w", "gate", "gate", "dock", 1, task), "mill"), None)

    def test_a_now_ahead_of_all(self):
        self.same(self.ask(far, SMALL, CHART, 0, ("w", "gate", "gate", "gate", 500, ("at", "c")), "dock"), 508)
        self.same(self.ask(far, SMALL, CHART, 0, ("w", "gate", "gate", "gate", 0, FREE), "dock"), 8)

    def test_shut_roads(self):
        wagon = ("w", "gate", "gate", "gate", 5, FREE)
        for shut, due in [((), 9), ((0,), None), ((1,), None), ((0, 1), None)]:
            self.same(far(SMALL, chart_of(SMALL, shut), 4, wagon, "dock"), due)
            self.same(far(SMALL, chart_of(SMALL, shut), 4, wagon, "gate"), 1)


class WaitingTests(Case):
    def test_none(self):
        self.same(self.ask(waiting, [], []), [])
        self.same(self.ask(waiting, (), ()), [])
        self.same(self.ask(waiting, [free("w", "h")], []), [])
        self.same(self.ask(waiting, [to("v", "h", "c"), at("w", "h", "d")], [("c", "p1", 1, 0), ("d", "h", 1, 0)]), [])

    def test_without_wagons_all_wait(self):
        calls = [("a", "h", 3, 5), ("b", "h", 1, 9), ("c", "h", 3, 4), ("d", "h", 2, 0)]
        self.same(self.ask(waiting, [], calls), ["b", "d", "c", "a"])

    def test_calls_that_have_a_wagon(self):
        calls = [("a", "h", 3, 5), ("b", "h", 1, 9), ("c", "h", 3, 4), ("d", "h", 2, 0)]
        self.same(self.ask(waiting, [to("v", "p1", "d"), at("w", "h", "c")], calls), ["b", "a"])
        self.same(self.ask(waiting, [free("a", "h"), free("b", "h")], calls), ["b", "d", "c", "a"])
        # Wagons and calls of like names are not the same.
        self.same(self.ask(waiting, [to("a", "p1", "b"), free("b", "h"), at("c", "h", "a")], calls), ["d", "c"])

    def test_grade_then_since_then_name(self):
        calls = [("a", "h", 2, 1), ("b", "h", 1, 2), ("c", "h", 1, 1), ("d", "h", 2, 0), ("e", "h", 1, 1), ("f", "h", 5, 0)]
        self.same(self.ask(waiting, [], calls), ["c", "e", "b", "d", "a", "f"])
        calls = [("c", "h", 1, 0), ("c1", "h", 1, 0), ("c10", "h", 1, 0), ("c2", "h", 1, 0), ("ca", "h", 1, 0)]
        self.same(self.ask(waiting, [], calls), ["c", "c1", "c10", "c2", "ca"])
        self.same(self.ask(waiting, [], [("a", "h", 5, 9), ("b", "h", 5, 10)]), ["a", "b"])
        self.same(self.ask(waiting, [], [("a", "h", 5, 10), ("b", "h", 5, 9)]), ["b", "a"])

    def test_the_place_is_of_no_account(self):
        self.same(self.ask(waiting, [], [("a", "p3", 1, 1), ("b", "p1", 1, 1), ("c", "h", 1, 1)]), ["a", "b", "c"])

    def test_ten_calls_lists_and_tuples(self):
        calls = [(f"c{at}", TEN_PLACES[at], 5 - at // 2, at % 2) for at in range(10)]
        due = [f"c{at}" for at in [8, 9, 6, 7, 4, 5, 2, 3, 0, 1]]
        self.same(self.ask(waiting, [], calls), due)
        self.same(self.ask(waiting, (), tuple(calls)), due)
        told = waiting((), tuple(calls))
        told.clear()
        self.same(waiting((), tuple(calls)), due)

    def test_many(self):
        for seed in range(500):
            town = random_town(seed, 5, 6)
            wagons, calls = random_traffic(seed, town, 1 + seed % 3)
            due = due_waiting(wagons, calls)
            self.same(self.ask(waiting, wagons, calls), due)
            self.same(self.ask(waiting, tuple(wagons), tuple(calls)), due)


class MayTests(Case):
    CALLS = [("a", "h", 1, 0), ("b", "h", 2, 0), ("c", "h", 2, 9), ("d", "h", 3, 0), ("e", "h", 5, 0)]

    def test_a_free_one(self):
        for name in "abcde":
            self.same(self.ask(may_be_sent, self.CALLS, free("w", "h"), name), True)
            self.same(self.ask(may_be_sent, tuple(self.CALLS), free("w", "p1", 99), name), True)

    def test_one_that_is_to_a_call(self):
        for own, due in [("a", ""), ("b", "a"), ("c", "a"), ("d", "abc"), ("e", "abcd")]:
            for name in "abcde":
                self.same(self.ask(may_be_sent, self.CALLS, to("w", "h", own), name), name in due)

    def test_one_that_is_at_a_call(self):
        for own, name in itertools.product("abcde", repeat=2):
            self.same(self.ask(may_be_sent, self.CALLS, at("w", "h", own), name), False)

    def test_many(self):
        for seed in range(200):
            town = random_town(seed, 5, 6)
            wagons, calls = random_traffic(seed, town)
            for wagon in wagons:
                for call in calls:
                    self.same(self.ask(may_be_sent, calls, wagon, call[0]), due_may(calls, wagon, call[0]))


class ChosenTests(Case):
    def chosen(self, wagons, calls, name="c", now=0):
        told = self.ask(chosen, STAR, STAR_CHART, now, wagons, calls, name)
        self.same(told, due_chosen(STAR, STAR_CHART, now, wagons, calls, name))
        return told

    def test_none(self):
        calls = [("b", "h", 2, 0), ("c", "h", 2, 0), ("d", "h", 2, 0)]
        self.same(self.chosen([], calls), None)
        self.same(self.chosen((), tuple(calls)), None)
        self.same(self.chosen([at("w", "h", "b")], calls), None)
        self.same(self.chosen([to("v", "p1", "b"), to("w", "p1", "d")], calls), None)

    def test_the_nearest(self):
        calls = [("c", "h", 2, 0)]
        self.same(self.chosen([free("u", "p3"), free("v", "p1"), free("w", "p2")], calls), "v")
        self.same(self.chosen([free("u", "p3"), free("v", "p1", 3), free("w", "p2")], calls), "w")
        self.same(self.chosen([free("u", "p3"), free("v", "p1", 14), free("w", "p2", 12)], calls, "c", 11), "u")
        self.same(self.chosen([free("u", "p3"), free("v", "p1", 14), free("w", "p2", 12)], calls, "c", 12), "w")
        self.same(self.chosen([free("u", "p3"), free("v", "p1", 14), free("w", "p2", 12)], calls, "c", 14), "v")

    def test_like_far_ones(self):
        calls = [("c", "h", 2, 0), ("d", "p3", 3, 0), ("e", "p3", 4, 0)]
        self.same(self.chosen([free("w1", "p2"), free("w10", "p2"), free("w2", "p2")], calls), "w1")
        self.same(self.chosen([free("w10", "p2"), free("w2", "p2")], calls), "w10")
        self.same(self.chosen([to("a", "p2", "d"), free("b", "p2")], calls), "b")
        self.same(self.chosen([to("a", "p2", "d"), to("b", "p2", "e"), free("z", "p2")], calls), "z")
        self.same(self.chosen([to("a", "p2", "d"), to("b", "p2", "e")], calls), "a")
        self.same(self.chosen([to("a", "p2", "e"), to("b", "p2", "d")], calls), "a")
        # Less far goes ahead of free.
        self.same(self.chosen([to("a", "p1", "d"), free("b", "p2")], calls), "a")
        self.same(self.chosen([to("a", "p2", "d"), free("b", "p1", 1)], calls), "b")

    def test_those_that_may_not_be_sent_are_passed_by(self):
        calls = [("b", "h", 1, 0), ("c", "h", 2, 0), ("d", "h", 2, 0), ("e", "h", 3, 0)]
        self.same(self.chosen([at("u", "h", "e"), to("v", "h", "b"), free("w", "p3")], calls), "w")
        self.same(self.chosen([to("v", "h", "d"), to("w", "p3", "e")], calls), "w")
        self.same(self.chosen([to("v", "h", "d"), to("w", "p3", "e")], calls, "b"), "v")

    def test_a_call_that_waits_and_one_that_does_not(self):
        calls = [("c", "h", 2, 0), ("d", "p1", 3, 0)]
        self.same(self.chosen([free("u", "p2"), to("v", "h", "c")], calls), "u")
        self.same(self.chosen([at("u", "h", "c"), free("v", "p1")], calls), "v")
        self.same(self.chosen([at("u", "h", "c"), to("v", "p1", "d")], calls), "v")
        self.same(self.chosen([to("u", "p1", "d")], calls, "d"), None)

    def test_none_that_has_a_way(self):
        calls = [("c", "gate", 2, 0), ("d", "dock", 3, 0)]
        wagons = [("u", "gate", "gate", "dock", 0, FREE), ("v", "gate", "gate", "dock", 0, ("to", "d"))]
        self.same(self.ask(chosen, SMALL, CHART, 0, wagons, calls, "c"), None)
        self.same(self.ask(chosen, SMALL, CHART, 0, wagons, calls, "d"), "u")
        wagons += [("w", "gate", "gate", "mill", 90, FREE)]
        self.same(self.ask(chosen, SMALL, CHART, 0, wagons, calls, "c"), "w")
        self.same(self.ask(chosen, SMALL, chart_of(SMALL, (0,)), 0, wagons, calls, "c"), None)

    def test_a_now_ahead_of_moments_and_sinces(self):
        calls = [("c", "h", 2, 500)]
        self.same(self.chosen([free("v", "h", 300), free("w", "p3", 296)], calls, "c", 0), "w")
        self.same(self.chosen([free("v", "h", 300), free("w", "p3", 297)], calls, "c", 0), "v")

    def test_lists_handed_in_changed_behind_the_call(self):
        wagons, calls = [free("v", "p1"), free("w", "p2")], [("c", "h", 2, 0), ("d", "p2", 2, 0)]
        before = copy.deepcopy(wagons)
        self.same(self.chosen(wagons, calls), "v")
        wagons.pop(0)
        self.same(self.chosen(wagons, calls), "w")
        calls.pop()
        self.same(self.chosen(before, calls), "v")

    def test_many_by_turns(self):
        told = {True: 0, False: 0}
        for _ in range(2):
            for seed in range(300):
                town = random_town(seed, 6, 8, 9)
                chart = chart_of(town, random_shut(seed, town))
                wagons, calls = random_traffic(seed, town)
                for now in [0, 95, 100, 105, 200]:
                    for name, place, _, _ in calls:
                        due = due_chosen(town, chart, now, wagons, calls, name)
                        self.same(self.ask(chosen, town, chart, now, wagons, calls, name), due)
                        told[due is None] += 1
                        for wagon in wagons:
                            self.same(self.ask(far, town, chart, now, wagon, place), due_far(town, chart, now, wagon, place))
        self.assertGreater(min(told.values()), 500)


if __name__ == "__main__":
    import unittest
    unittest.main()
