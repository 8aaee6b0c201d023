"""[15] plans of free rows, the posts behind them, the least plan, told with a tree that shows it."""

import copy
import itertools
import random

from tests.samples import FULL, LONELY, ROW_OF_TEN, SMALL, TEN_PLACES, Case, nested, odd_things, random_shut, random_town
from tests.secondtrees import STANDS, all_least, behind, due_moves_tree, held_by, random_rows, uncovered
from wagoncalls.plans import least_plan
from wagoncalls.trees import covers_behind, is_plan, shows_moves
from wagoncalls.ways import chart_of

ALONE = (("a", "b", "c", "d"), (), ("a", "b", "c"), 5)
ROWS = [("w1", "a", ("a", "b")), ("w10", "d", ("a", "b", "c")), ("w2", "b", ())]


class PlanTests(Case):
    def are(self, due, town, rows, things):
        for thing in things:
            with self.subTest(thing=thing):
                self.same(self.ask(is_plan, town, rows, thing), due)

    def test_plans(self):
        self.are(True, ALONE, ROWS, [
            [], [("w1", "b")], [("w10", "a")], [("w10", "b")], [("w10", "c")], [("w1", "b"), ("w10", "a")],
            [("w1", "b"), ("w10", "b")], [("w1", "b"), ("w10", "c")],
        ])
        self.are(True, ALONE, [], [[]])
        self.are(True, LONELY, [("w", "a", ("a",))], [[]])

    def test_no_plans(self):
        self.are(False, ALONE, ROWS, [
            [("w10", "a"), ("w1", "b")], [("w10", "c"), ("w1", "b")], [("w1", "b"), ("w1", "b")],
            [("w10", "a"), ("w10", "b")], [("w10", "b"), ("w10", "a")], [("w10", "a"), ("w10", "a")],
            [("w1", "b"), ("w10", "a"), ("w10", "b")], [("w3", "a")], [("w", "a")], [("w100", "a")], [("", "a")],
            [("w1", "a")], [("w10", "d")], [("w1", "c")], [("w2", "a")], [("w2", "b")], [("w1", "x")], [("w1", "")],
            [("a", "w1")], [("b", "w1")], [("w1", "b"), ("w3", "a")], [("w0", "a"), ("w1", "b")],
        ])
        self.are(False, ALONE, [], [[("w1", "b")], [("w10", "a")]])
        self.are(False, LONELY, [("w", "a", ("a",))], [[("w", "a")]])

    def test_of_anything(self):
        wrong = [
            (), (("w1", "b"),), [["w1", "b"]], [("w1", "b", "a")], [("w1",)], [()], [None], [True], "", "w1 b", None,
            True, False, 0, 1, {}, {"w1": "b"}, {("w1", "b"): True}, [{}], [{"w1": "b"}], ["w1", "b"], [("w1", ("b",))],
            [(("w1",), "b")], [("w1", ["b"])], [("w1", None)], [("w1", 1)], [("w1", True)], [(None, None)], [[]],
            [("w1", "b"), None], [("w1", "b"), ()], [("w1", "b"), [("w10", "a")]], [[("w1", "b")]], [("w1", {})],
            [(1, "b")], [({}, {})], [("w1 ", "b")], [("W1", "b")], [("w1", "b ")], [("w1", "b\n")], [("w1", "b" * 8000)],
            [("w1", "b")] * 200, [("w10", "a")] * 2, [("w1", nested(tuple, 30))], [(nested(dict, 30), "b")],
        ]
        self.are(False, ALONE, ROWS, wrong)
        self.are(False, ALONE, [], wrong)
        for thing in odd_things():
            self.are(thing == [] and isinstance(thing, list), ALONE, ROWS, [thing])

    def test_a_can_that_has_the_post_and_a_post_that_is_no_stand(self):
        rows = [("w", "a", ("a", "b", "c")), ("x", "d", ("a",))]
        self.are(True, ALONE, rows, [[("w", "b")], [("w", "c")], [("x", "a")], [("w", "b"), ("x", "a")]])
        self.are(False, ALONE, rows, [[("w", "a")], [("x", "d")], [("w", "d")], [("x", "b")]])

    def test_all_lists_of_a_few_moves(self):
        rows = [("b", "a", ("a", "b", "c")), ("b1", "d", ("b",)), ("c", "c", ("a", "c"))]
        moves = [(wagon, place) for wagon in ["b", "b1", "c", "d"] for place in ALONE[0]]
        right = [("b", "b"), ("b", "c"), ("b1", "b"), ("c", "a")]
        for many in range(4):
            for plan in itertools.product(moves, repeat=many):
                rising = all(one[0] < other[0] for one, other in zip(plan, plan[1:]))
                self.same(is_plan(ALONE, rows, list(plan)), rising and all(move in right for move in plan))

    def test_covers_behind(self):
        chart = chart_of(ALONE, ())
        rows = [("u", "a", ("a", "b", "c")), ("v", "d", ("a", "b")), ("w", "b", ("b", "c"))]
        for plan, due in [
            ([], False), ([("v", "a")], False), ([("w", "c")], False), ([("v", "b"), ("w", "c")], True),
            ([("u", "c")], False), ([("u", "c"), ("v", "a")], True), ([("u", "b"), ("v", "a"), ("w", "c")], True),
            ([("u", "c"), ("v", "a"), ("w", "c")], False),
        ]:
            self.same(self.ask(is_plan, ALONE, rows, plan), True)
            self.same(self.ask(covers_behind, ALONE, chart, rows, plan), due)
        self.same(self.ask(covers_behind, ALONE, chart, [], []), False)
        self.same(self.ask(covers_behind, LONELY, ((0,),), [], []), False)
        self.same(self.ask(covers_behind, LONELY, ((0,),), [("w", "a", ())], []), True)

    def test_covers_behind_of_lost_places_and_of_posts_that_are_no_stands(self):
        chart = chart_of(SMALL, ())
        for reach, place, due in [(10, "mill", True), (7, "mill", True), (6, "mill", False), (5, "gate", False),
                                  (8, "gate", True), (10, "dock", False)]:
            self.same(self.ask(covers_behind, SMALL[:3] + (reach,), chart, [("w", place, ())], []), due)
        shut = chart_of(SMALL, (0, 1))
        self.same(covers_behind(SMALL, shut, [("v", "dock", ()), ("w", "gate", ())], []), True)
        self.same(covers_behind(SMALL, shut, [("v", "mill", ()), ("w", "gate", ())], []), False)

    def test_many_towns(self):
        told = {True: 0, False: 0}
        for seed in range(400):
            town = random_town(seed, 6, 10, 60)
            chart = chart_of(town, random_shut(seed, town))
            rows = random_rows(seed, town)[:3]
            for stays in itertools.product(*[[None, *row[2]] for row in rows]):
                plan = [(row[0], stand) for row, stand in zip(rows, stays) if stand is not None]
                due = all(stand is None or stand != row[1] for row, stand in zip(rows, stays))
                self.same(is_plan(town, rows, plan), due)
                if due:
                    covers = not uncovered(town, chart, behind(rows, plan))
                    self.same(self.ask(covers_behind, town, chart, rows, plan), covers)
                    told[covers] += 1
        self.assertGreater(min(told.values()), 200)


class LeastPlanTests(Case):
    def least(self, town, rows, shut=()):
        """The least plan, held against a search over all plans, and its tree against both readings of [16]."""
        chart = chart_of(town, shut)
        told = self.ask(least_plan, town, chart, rows)
        self.assertIs(type(told), tuple)
        plan, tree = told
        self.same(plan, all_least(town, chart, rows))
        self.same(due_moves_tree(town, chart, rows, plan, tree), True)
        self.same(self.ask(shows_moves, town, chart, rows, plan, tree), True)
        if plan is not None:
            self.same(is_plan(town, rows, plan), True)
            self.same(covers_behind(town, chart, rows, plan), True)
        return plan

    def test_none_needed(self):
        self.same(self.least(LONELY, [("w", "a", ("a",))]), [])
        self.same(self.least(SMALL, [("w", "gate", ("gate", "dock"))]), [])
        self.same(self.least(SMALL, [("w", "mill", ("gate", "dock"))]), [])
        self.same(self.least(ALONE, [("u", "c", ALONE[2]), ("v", "b", ()), ("w", "a", ALONE[2])]), [])
        self.same(least_plan(LONELY, ((0,),), [("w", "a", ("a",))]), ([], ("full",)))

    def test_of_no_rows_none(self):
        self.same(self.least(LONELY, []), None)
        self.same(self.least(FULL, []), None)
        self.same(self.least(ALONE, []), None)
        self.same(least_plan(LONELY, ((0,),), []), (None, ("bare", "a")))

    def test_some_of_as_few_moves(self):
        rows = [("u", "d", ALONE[2]), ("v", "d", ALONE[2]), ("w", "d", ALONE[2])]
        self.same(self.least(ALONE, rows), [("u", "a"), ("v", "b"), ("w", "c")])
        rows = [("u", "a", ALONE[2]), ("v", "a", ALONE[2]), ("w", "a", ALONE[2])]
        self.same(self.least(ALONE, rows), [("u", "b"), ("v", "c")])
        rows = [("u", "a", ALONE[2]), ("v", "a", ("a", "c")), ("w", "a", ALONE[2])]
        self.same(self.least(ALONE, rows), [("u", "b"), ("v", "c")])
        rows = [("u", "a", ("c",)), ("v", "a", ("a", "c")), ("w", "a", ALONE[2])]
        self.same(self.least(ALONE, rows), [("u", "c"), ("w", "b")])
        rows = [("u", "a", ()), ("v", "b", ALONE[2]), ("w", "b", ALONE[2])]
        self.same(self.least(ALONE, rows), [("v", "c")])

    def test_the_first_is_by_names_of_wagons_and_of_stands(self):
        town = (("a", "b", "c", "d"), (), ("c", "b", "a"), 5)
        rows = [("u", "d", ("c", "b", "a")), ("v", "d", ("c", "b", "a")), ("w", "d", ("c", "b", "a"))]
        self.same(self.least(town, rows), [("u", "a"), ("v", "b"), ("w", "c")])
        rows = [("w1", "a", ("c", "b", "a")), ("w10", "b", ("c", "b", "a")), ("w2", "b", ("c", "b", "a"))]
        self.same(self.least(town, rows), [("w10", "c")])

    def test_fewer_moves_go_ahead_of_those_of_lesser_names(self):
        roads = (("x", "y", 1, 1),)
        town = (("x", "y", "z"), roads, ("x", "y", "z"), 1)
        self.same(self.least(town, [("a", "x", town[2]), ("b", "y", ("x", "y", "z"))]), [("a", "z")])
        self.same(self.least(town, [("a", "x", ("y",)), ("b", "y", ("x", "y", "z"))]), [("b", "z")])

    def test_none(self):
        self.same(self.least(ALONE, [("u", "d", ALONE[2]), ("v", "d", ALONE[2])]), None)
        self.same(self.least(ALONE, [("u", "d", ("a", "b")), ("v", "d", ("a", "b")), ("w", "b", ("a", "b"))]), None)
        self.same(self.least(ALONE, [("u", "a", ()), ("v", "b", ()), ("w", "d", ())]), None)
        self.same(self.least(LONELY, []), None)

    def test_a_move_that_bares_another_place_is_mended(self):
        rows = [("u", "a", ("b",)), ("v", "b", ("c",)), ("w", "d", ("a",))]
        self.same(self.least(ALONE, rows), [("u", "b"), ("v", "c"), ("w", "a")])

    def test_a_can_that_has_the_post(self):
        rows = [("u", "a", ("a",)), ("v", "a", ("a", "b")), ("w", "a", ("a", "b", "c"))]
        self.same(self.least(ALONE, rows), [("v", "b"), ("w", "c")])

    def test_a_place_without_an_option_makes_the_tree_small(self):
        town = (TEN_PLACES, (), TEN_PLACES[:5], 0)
        rows = [(f"w{at}", "p9", TEN_PLACES[:4]) for at in range(5)]
        self.same(least_plan(town, chart_of(town, ()), rows), (None, ("bare", "p4")))

    def test_five_wagons_all_moved(self):
        rows = [(f"w{at}", TEN_PLACES[5 + at], TEN_PLACES[:5]) for at in range(5)]
        self.same(self.least((TEN_PLACES, (), TEN_PLACES[:5], 0), rows), [(f"w{at}", f"p{at}") for at in range(5)])
        rows = [(f"w{at}", TEN_PLACES[5 + at], TEN_PLACES[4 - at:5]) for at in range(5)]
        self.same(self.least((TEN_PLACES, (), TEN_PLACES[:5], 0), rows), [(f"w{at}", f"p{4 - at}") for at in range(5)])

    def test_lost_places_move_none(self):
        self.same(self.least(ROW_OF_TEN, [("u", "p0", ("p0", "p9")), ("v", "p9", ())]), [])
        self.same(self.least(ROW_OF_TEN, [("u", "p0", ("p0", "p9")), ("v", "p0", ("p9",))]), [("u", "p9")])

    def test_places_that_several_stands_hold(self):
        town = held_by([0, 1], [1, 2], [2, 3], [3, 4], [4, 0])
        roads = tuple((f"s{at}", f"s{(at + 1) % 5}", 1, 1) for at in range(5))
        for town in [town, (STANDS, roads, STANDS, 1), (STANDS, roads, STANDS[::-1], 1)]:
            for rows in [
                [(f"w{at}", town[0][-1], town[2]) for at in range(5)], [(f"w{at}", "s0", town[2]) for at in range(5)],
                [(f"w{at}", town[0][-1], town[2][at:]) for at in range(5)],
                [(f"w{at}", town[0][-1], town[2][:at]) for at in range(5)],
            ]:
                self.least(town, rows)

    def test_lists_told_are_the_askers_own(self):
        chart = chart_of(ALONE, ())
        rows = [("u", "a", ALONE[2]), ("v", "a", ALONE[2]), ("w", "a", ALONE[2])]
        before = copy.deepcopy(rows)
        told = least_plan(ALONE, chart, rows)
        due = copy.deepcopy(told)
        told[0].clear()
        self.same(least_plan(ALONE, chart, rows), due)
        other = least_plan(ALONE, chart, rows)
        other[0].append(("x", "a"))
        rows.pop()
        self.same(least_plan(ALONE, chart, rows)[0], None)
        rows.append(before[-1])
        self.same(least_plan(ALONE, chart, rows), due)
        self.assertIsNot(least_plan(ALONE, chart, rows)[0], least_plan(ALONE, chart, rows)[0])

    def test_by_turns_and_again(self):
        asked = [(random_town(seed, 8, 9, 30), random_rows(seed, random_town(seed, 8, 9, 30))) for seed in range(40)]
        first = [least_plan(town, chart_of(town, ()), rows) for town, rows in asked]
        for town, rows in asked:
            least_plan(town, chart_of(town, tuple(range(len(town[1])))), rows)
            least_plan(town, chart_of(town, ()), rows[::-1][:1])
        self.same([least_plan(town, chart_of(town, ()), rows) for town, rows in asked], first)

    def test_many_towns(self):
        told = {}
        for seed in range(900):
            town = random_town(seed, 8, 12, 60 if seed % 3 else 12)
            plan = self.least(town, random_rows(seed, town), random_shut(seed, town))
            many = None if plan is None else len(plan)
            told[many] = told.get(many, 0) + 1
        for many in [None, 0, 1, 2, 3]:
            self.assertGreater(told[many], 10)

    def test_many_charts_of_few_places(self):
        chance = random.Random(15)
        told = {}
        for seed in range(300):
            many = chance.randint(3, 6)
            places = TEN_PLACES[:many]
            stands = tuple(chance.sample(places, min(many, 5)))
            roads = [(one, other, 1, None) for one in stands for other in places if one != other and chance.random() < 0.2]
            town = (places, tuple(roads[:18]), stands, 1)
            rows = random_rows(1000 + seed, town)
            rows = [(wagon, post, tuple(stand for stand in stands if chance.random() < 0.8)) for wagon, post, _ in rows]
            plan = self.least(town, rows)
            told[None if plan is None else len(plan)] = told.get(None if plan is None else len(plan), 0) + 1
        for found in [None, 0, 1, 2, 3]:
            self.assertGreater(told[found], 5)


if __name__ == "__main__":
    import unittest
    unittest.main()
