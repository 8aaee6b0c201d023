"""[8] ways, [9] the chart, [10] first roads and first ways."""

import itertools

from tests.samples import FULL, LONELY, ROW_OF_TEN, SMALL, TEN_PLACES, Case, nested, odd_things, random_shut, random_town
from wagoncalls.ways import chart_of, first_road, is_way, minutes_of, way

# Two roads the like, one longer, one driven one way, one only back.
FORKS = (
    ("a", "b", "c", "d"),
    (("a", "c", 9, 9), ("b", "a", 2, 4), ("b", "c", 5, 1), ("a", "b", 4, 2), ("c", "d", 7, None), ("c", "d", None, 3)),
    ("a", "d"),
    5,
)


def drives(town, shut, place):
    """All that is open from a place, by the document's words: (road, place, minutes)."""
    found = []
    for number, (one, other, there, back) in enumerate(town[1]):
        if number not in shut and one == place and there is not None:
            found.append((number, other, there))
        if number not in shut and other == place and back is not None:
            found.append((number, one, back))
    return found


def simple_ways(town, shut, one, other):
    """All ways that come to no place twice, as (minutes, numbers): one of the least minutes is never another."""
    found = []
    going = [(one, 0, (), (one,))]
    while going:
        place, minutes, numbers, seen = going.pop()
        if place == other:
            found.append((minutes, numbers))
            continue
        for number, led, more in drives(town, shut, place):
            if led not in seen:
                going.append((led, minutes + more, numbers + (number,), seen + (led,)))
    return found


def end_of(town, shut, one, numbers):
    """The place to which roads lead one behind the other; None where one of them isn't open from there."""
    place = one
    for number in numbers:
        led = {road: end for road, end, _ in drives(town, shut, place)}
        if number not in led:
            return None
        place = led[number]
    return place


def least(town, shut):
    """The least minutes of all pairs, place by place in between: another way than by rounds over roads."""
    table = {(one, other): 0 if one == other else None for one in town[0] for other in town[0]}
    for one in town[0]:
        for _, led, minutes in drives(town, shut, one):
            if table[one, led] is None or minutes < table[one, led]:
                table[one, led] = minutes
    for middle in town[0]:
        for one in town[0]:
            for other in town[0]:
                first, second, whole = table[one, middle], table[middle, other], table[one, other]
                if first is not None and second is not None and (whole is None or first + second < whole):
                    table[one, other] = first + second
    return tuple(tuple(table[begin, goal] for begin in town[0]) for goal in town[0])


class WayTests(Case):
    def are(self, due, town, shut, one, other, things):
        for thing in things:
            with self.subTest(one=one, other=other, thing=thing):
                self.same(self.ask(is_way, town, shut, one, other, thing), due)

    def test_ways(self):
        self.are(True, SMALL, (), "gate", "mill", [(0,), (0, 0, 0)])
        self.are(True, SMALL, (), "mill", "gate", [(0,), (0, 0, 0)])
        self.are(True, SMALL, (), "gate", "dock", [(0, 1), (0, 0, 0, 1)])
        self.are(True, FORKS, (), "a", "d", [(0, 4), (1, 2, 4), (3, 2, 4), (1, 3, 3, 2, 4), (0, 0, 0, 4), (1, 1, 0, 4)])
        self.are(True, FORKS, (), "d", "a", [(5, 0), (5, 2, 1), (5, 2, 3)])
        self.are(True, FORKS, (), "c", "c", [(), (4, 5), (0, 0), (2, 1, 0), (4, 5, 4, 5)])
        self.are(True, FORKS, (), "a", "a", [(0, 0) * 100, (1,) * 400])

    def test_no_ways(self):
        self.are(False, SMALL, (), "gate", "mill", [(), (1,), (0, 1), (0, 0), (2,), (-1,), (-2,), (0, 2), (0, -2, 0)])
        self.are(False, SMALL, (), "dock", "mill", [(1,), (), (0,), (-1,)])
        self.are(False, SMALL, (), "gate", "dock", [(1,), (0,), (1, 0), (0, 1, 1)])
        self.are(False, FORKS, (), "a", "d", [(0,), (0, 5), (4,), (0, 4, 4), (0, 6), (1, 4), (-6, 4), (0, -2), (0, 4, 5)])
        self.are(False, FORKS, (), "d", "c", [(4,), (4, 5), (5, 0), ()])
        self.are(False, FORKS, (), "c", "b", [(1,), (3,)])
        self.are(False, FORKS, (), "d", "a", [(0,), (1,), (3,)])
        self.are(False, SMALL, (), "gate", "mill", [(2,), (17,), (18,), (10 ** 60 - 1,), (-(10 ** 60 - 1),)])

    def test_without_roads(self):
        self.are(True, LONELY, (), "a", "a", [()])
        self.are(False, LONELY, (), "a", "a", [(0,), (-1,), (1,), (False,), [], "", None, {}])

    def test_to_itself(self):
        for place in FORKS[0]:
            self.are(True, FORKS, (0, 1, 2, 3, 4, 5), place, place, [()])
            for other in FORKS[0]:
                self.are(place == other, FORKS, (), place, other, [()])

    def test_shut_roads(self):
        self.are(True, FORKS, (0, 1), "a", "d", [(3, 2, 4), (3, 3, 3, 2, 4)])
        self.are(False, FORKS, (0, 1), "a", "d", [(0, 4), (1, 2, 4), (3, 1, 3, 2, 4)])
        self.are(False, FORKS, (4,), "a", "d", [(0, 4), (3, 2, 4)])
        self.are(False, SMALL, (0, 1), "gate", "mill", [(0,), ()])

    def test_of_anything(self):
        wrong = [
            [0], [], "0", "", None, True, False, 0, 1, {}, {0: 0}, (True,), (False,), ("0",), (None,), ((0,),), ([0],),
            ({},), (0, None), (0, True), (0, False, 0), (0, "0", 0), (0, (), 0), (0, [], 0), (10 ** 60 - 1,), (0, 10 ** 60 - 1),
            (-(10 ** 60 - 1),), nested(list, 32), nested(tuple, 32), nested(dict, 32), (0, nested(dict, 31)),
        ]
        self.are(False, SMALL, (), "gate", "mill", wrong)
        self.are(False, SMALL, (0, 1), "gate", "mill", wrong)
        for thing in odd_things():
            self.are(isinstance(thing, tuple) and thing == (0,) and thing[0] is not False, SMALL, (), "gate", "mill", [thing])
            self.are(isinstance(thing, tuple) and thing == (), SMALL, (), "gate", "gate", [thing])

    def test_truths_are_no_roads(self):
        self.are(True, FORKS, (), "a", "b", [(1,)])
        self.are(False, FORKS, (), "a", "b", [(True,)])
        self.are(True, FORKS, (), "a", "c", [(0,), (1, 2)])
        self.are(False, FORKS, (), "a", "c", [(False,), (True, 2)])

    def test_minutes(self):
        for one, roads, due in [
            ("a", (), 0), ("a", (0,), 9), ("c", (0,), 9), ("a", (1,), 4), ("b", (1,), 2), ("a", (3,), 4), ("b", (3,), 2),
            ("a", (1, 2), 9), ("a", (1, 2, 4), 16), ("d", (5, 2, 1), 6), ("d", (5,), 3), ("c", (4, 5), 10),
            ("a", (1, 1, 1), 10), ("b", (2, 2, 2), 11), ("a", (0,) * 300, 2700),
        ]:
            self.same(self.ask(minutes_of, FORKS, one, roads), due)
        self.same(minutes_of(SMALL, "gate", (0, 0, 0, 1)), 5 + 7 + 5 + 3)
        self.same(minutes_of(LONELY, "a", ()), 0)

    def test_ways_of_many_towns(self):
        for seed in range(150):
            town = random_town(seed, 5, 6, 9)
            shut = random_shut(seed, town)
            for one in town[0]:
                for other in town[0]:
                    for minutes, numbers in simple_ways(town, shut, one, other):
                        self.same(is_way(town, shut, one, other, numbers), True)
                        self.same(minutes_of(town, one, numbers), minutes)


    def test_all_tuples_of_few_roads(self):
        for seed in range(60):
            town = random_town(seed, 4, 4, 9)
            shut = random_shut(seed, town)
            for length in range(4):
                for numbers in itertools.product(range(-1, len(town[1]) + 1), repeat=length):
                    for one in town[0]:
                        end = end_of(town, shut, one, numbers)
                        for other in town[0]:
                            self.same(is_way(town, shut, one, other, numbers), other == end)


class ChartTests(Case):
    def test_told(self):
        self.same(self.ask(chart_of, SMALL, ()), ((0, 7, None), (5, 0, None), (8, 3, 0)))
        self.same(self.ask(chart_of, SMALL, (1,)), ((0, 7, None), (5, 0, None), (None, None, 0)))
        self.same(self.ask(chart_of, SMALL, (0,)), ((0, None, None), (None, 0, None), (None, 3, 0)))
        self.same(self.ask(chart_of, FORKS, ()), ((0, 2, 3, 6), (4, 0, 1, 4), (9, 5, 0, 3), (16, 12, 7, 0)))

    def test_without_open_roads(self):
        self.same(self.ask(chart_of, LONELY, ()), ((0,),))
        for town in [SMALL, FORKS, ROW_OF_TEN, FULL, (TEN_PLACES, (), ("p0",), 5)]:
            shut = tuple(range(len(town[1])))
            many = range(len(town[0]))
            bare = tuple(tuple(0 if goal == place else None for place in many) for goal in many)
            self.same(self.ask(chart_of, town, shut), bare)

    def test_ten_in_a_row(self):
        chart = self.ask(chart_of, ROW_OF_TEN, ())
        self.same(chart[9], (45, 44, 42, 39, 35, 30, 24, 17, 9, 0))
        self.same(chart[0], (0, 60, 119, 177, 234, 290, 345, 399, 452, 504))
        turned = (TEN_PLACES, tuple(reversed(ROW_OF_TEN[1])), ("p0",), 20)
        self.same(self.ask(chart_of, turned, ()), chart)

    def test_one_way_round(self):
        ring = (TEN_PLACES, tuple((TEN_PLACES[at], TEN_PLACES[(at + 1) % 10], 60, None) for at in range(10)), ("p0",), 0)
        for goal, row in enumerate(self.ask(chart_of, ring, ())):
            self.same(row, tuple(60 * ((goal - place) % 10) for place in range(10)))
        back = (TEN_PLACES, tuple((TEN_PLACES[at], TEN_PLACES[(at + 1) % 10], None, 1) for at in range(10)), ("p0",), 0)
        for goal, row in enumerate(self.ask(chart_of, back, ())):
            self.same(row, tuple((place - goal) % 10 for place in range(10)))

    def test_a_way_round_is_nearer(self):
        town = (("a", "b", "c", "d"), (("a", "d", 60, 60), ("a", "b", 20, 1), ("b", "c", 20, 1), ("c", "d", 19, 1)), ("a",), 1)
        self.same(chart_of(town, ())[3], (59, 39, 19, 0))
        self.same(chart_of(town, (2,))[3], (60, 61, 19, 0))

    def test_many_towns_by_turns(self):
        towns = [random_town(seed, 10, 18, 60 if seed % 2 else 4) for seed in range(120)]
        for turn in range(4):
            for seed, town in enumerate(towns):
                shut = random_shut(seed * 7 + turn, town)
                self.same(self.ask(chart_of, town, shut), least(town, shut))
        for town in (SMALL, FORKS, SMALL, FORKS):
            for shut in [(), (0,), (0, 1), (1,), ()]:
                self.same(self.ask(chart_of, town, shut), least(town, shut))


class FirstTests(Case):
    def first(self, town, shut, one, other):
        return self.ask(first_road, town, shut, self.ask(chart_of, town, shut), one, other)

    def test_first_roads(self):
        for one, other, due in [
            ("a", "b", 1), ("b", "a", 1), ("a", "c", 0), ("a", "d", 0), ("b", "d", 2), ("c", "d", 4), ("d", "c", 5),
            ("d", "a", 5), ("c", "a", 2), ("c", "b", 2), ("a", "a", None), ("d", "d", None),
        ]:
            self.same(self.first(FORKS, (), one, other), due)
        self.same(self.first(FORKS, (0,), "a", "d"), 1)
        self.same(self.first(FORKS, (0, 1), "a", "d"), 3)
        self.same(self.first(FORKS, (0, 1, 3), "a", "d"), None)
        self.same(self.first(FORKS, (4,), "a", "d"), None)
        self.same(self.first(SMALL, (), "dock", "gate"), None)
        self.same(self.first(LONELY, (), "a", "a"), None)

    def test_first_ways(self):
        for shut, one, other, due in [
            ((), "a", "d", (0, 4)), ((), "a", "c", (0,)), ((0,), "a", "d", (1, 2, 4)), ((0, 1), "a", "d", (3, 2, 4)),
            ((), "d", "a", (5, 2, 1)), ((1,), "d", "a", (5, 2, 3)), ((2,), "d", "a", (5, 0)), ((4,), "a", "d", None),
            ((), "a", "a", ()), ((0, 1, 2, 3, 4, 5), "a", "a", ()), ((0, 1, 3), "a", "b", None),
        ]:
            self.same(self.ask(way, FORKS, shut, one, other), due)
        self.same(self.ask(way, SMALL, (), "gate", "dock"), (0, 1))
        self.same(self.ask(way, SMALL, (), "dock", "gate"), None)
        self.same(self.ask(way, LONELY, (), "a", "a"), ())
        self.same(self.ask(way, ROW_OF_TEN, (), "p0", "p9"), (0, 1, 2, 3, 4, 5, 6, 7, 8))
        self.same(self.ask(way, ROW_OF_TEN, (), "p9", "p0"), (8, 7, 6, 5, 4, 3, 2, 1, 0))

    def test_of_like_minutes_the_first(self):
        town = (("a", "b", "c", "d"), (("c", "d", 5, 5), ("b", "d", 5, 5), ("a", "c", 5, 5), ("a", "b", 5, 5),
                                       ("a", "d", 10, 10)), ("a",), 9)
        self.same(way(town, (), "a", "d"), (2, 0))
        self.same(way(town, (), "d", "a"), (0, 2))
        self.same(way(town, (2,), "a", "d"), (3, 1))
        self.same(way(town, (1, 2), "a", "d"), (4,))

    def test_many_towns(self):
        for seed in range(200):
            town = random_town(seed, 6, 9, 3 if seed % 2 else 1)
            shut = random_shut(seed, town)
            for one in town[0]:
                for other in town[0]:
                    ways = simple_ways(town, shut, one, other)
                    numbers = min(ways)[1] if ways else None
                    self.same(self.ask(way, town, shut, one, other), numbers)
                    self.same(self.first(town, shut, one, other), numbers[0] if numbers else None)
