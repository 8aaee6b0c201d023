"""[6] what a town is."""

from tests.samples import FULL, LONELY, ROW_OF_TEN, SMALL, TEN_PLACES, Case, nested, odd_things, random_town
from wagoncalls.towns import is_town

PLACES = ("a", "b", "c")
ROAD = ("a", "b", 1, 1)


def town(places=PLACES, roads=(ROAD,), stands=("a",), reach=10):
    return places, roads, stands, reach


class TownTests(Case):
    def are(self, things, due):
        for thing in things:
            with self.subTest(thing=thing):
                self.same(self.ask(is_town, thing), due)

    def test_towns(self):
        self.are([SMALL, LONELY, ROW_OF_TEN, FULL, town(), town(roads=())], True)
        self.are([random_town(seed) for seed in range(300)], True)

    def test_places(self):
        self.are([town(TEN_PLACES[:many], (), ("p0",)) for many in range(1, 11)], True)
        self.are([town(("abcdefgh", "a0"), (), ("a0",))], True)
        self.are([town((), (), ()), town((), (), ("a",)), town(TEN_PLACES + ("q",), (), ("p0",))], False)
        self.are([town(("a", "a"), (), ("a",)), town(("a", "b", "a")), town(("a", "b", "c", "c"))], False)
        for wrong in ["", "A", "1", "a b", "abcdefghi", "a\n", "a" * 8000, None, True, 0, ["a"], ("a",), {"a": 1}]:
            self.are([town(("a", "b", wrong)), town((wrong, "a", "b")), town((wrong,), (), (wrong,))], False)
        self.are([town(wrong) for wrong in odd_things()], False)
        self.are([town(list(PLACES)), town("abc"), town({"a": 0, "b": 1, "c": 2})], False)

    def test_how_many_roads(self):
        self.are([town(roads=(ROAD,) * many) for many in range(0, 19)], True)
        self.are([town(roads=(ROAD,) * many) for many in (19, 20, 100)], False)
        self.are([town(roads=[ROAD]), town(roads=[]), town(roads={}), town(roads=""), town(roads=ROAD)], False)
        self.are([town(roads=wrong) for wrong in odd_things() if wrong != ()], False)

    def test_ends_of_a_road(self):
        self.are([town(roads=(road,)) for road in [("a", "b", 1, 1), ("c", "a", 1, 1), ("b", "c", 1, 1)]], True)
        self.are([town(roads=(ROAD, ("b", "a", 2, 3), ROAD, ("a", "b", None, 3)))], True)
        for wrong in ["d", "A", "", "aa", "a\n", None, True, 0, ["a"], ("a",), {"a": "a"}]:
            self.are([town(roads=((wrong, "b", 1, 1),)), town(roads=(("b", wrong, 1, 1),))], False)
            self.are([town(roads=(ROAD, (wrong, wrong, 1, 1)))], False)
        for name in PLACES:
            self.are([town(roads=((name, name, 1, 1),)), town(roads=(ROAD, ROAD, (name, name, 1, None)))], False)
        self.are([town(("a",), (("a", "a", 1, 1),), ("a",))], False)

    def test_minutes_of_a_road(self):
        for minutes in [1, 2, 30, 59, 60]:
            roads = [("a", "b", minutes, minutes), ("a", "b", None, minutes), ("a", "b", minutes, None)]
            self.are([town(roads=(road,)) for road in roads], True)
        self.are([town(roads=(("a", "b", None, None),)), town(roads=(ROAD, ("b", "c", None, None)))], False)
        wrong = [0, -1, 61, 10 ** 60 - 1, -(10 ** 60 - 1), True, False, "1", "-", "", [1], (1,), {1: 1}, [], ()]
        for minutes in wrong:
            roads = [("a", "b", minutes, 1), ("a", "b", 1, minutes), ("a", "b", None, minutes), ("a", "b", minutes, None)]
            self.are([town(roads=(road,)) for road in roads], False)
            self.are([town(roads=(ROAD, road)) for road in roads], False)

    def test_shape_of_a_road(self):
        wrong = [["a", "b", 1, 1], ("a", "b", 1), ("a", "b"), ("a",), (), ("a", "b", 1, 1, 1), ("a", "b", 1, 1, None),
                 {"a": "b"}, {0: "a", 1: "b", 2: 1, 3: 1}, "ab11", "road a b 1 1", None, True, 0, (ROAD,)]
        for road in wrong + odd_things():
            self.are([town(roads=(road,)), town(roads=(ROAD, road))], False)

    def test_stands(self):
        five = TEN_PLACES[:5]
        self.are([town(TEN_PLACES, (), TEN_PLACES[:many]) for many in range(1, 6)], True)
        self.are([town(stands=stands) for stands in [("c",), ("c", "a"), ("b", "c", "a")]], True)
        self.are([town(stands=()), town(TEN_PLACES, (), TEN_PLACES[:6])], False)
        self.are([town(stands=("a", "a")), town(stands=("a", "b", "a")), town(TEN_PLACES, (), five[:4] + ("p0",))], False)
        for wrong in ["d", "A", "", "aa", "a\n", None, True, 0, ["a"], ("a",), {"a": "a"}]:
            self.are([town(stands=(wrong,)), town(stands=("a", wrong)), town(stands=(wrong, "a"))], False)
        self.are([town(stands=["a"]), town(stands="a"), town(stands={"a": 1})], False)
        self.are([town(stands=wrong) for wrong in odd_things() if wrong != ("a",)], False)

    def test_reach(self):
        self.are([town(reach=reach) for reach in [0, 1, 60, 61, 119, 120]], True)
        wrong = [-1, 121, 10 ** 60 - 1, -(10 ** 60 - 1), True, False, None, "10", "", [10], (10,), {10: 10}]
        self.are([town(reach=reach) for reach in wrong], False)

    def test_parts_left_out_or_more(self):
        whole = town()
        self.are([whole[:many] for many in range(4)], False)
        self.are([whole[at:] for at in range(1, 4)], False)
        self.are([whole + (None,), whole + (10,), whole + ((),), (whole,), whole + whole], False)
        self.are([whole[:at] + whole[at + 1:] for at in range(4)], False)

    def test_other_kinds(self):
        self.are(odd_things(), False)
        self.are([list(town()), {0: PLACES, 1: (), 2: ("a",), 3: 1}, dict(enumerate(town())), [town()], (town(),)], False)
        for kind in (list, tuple, dict):
            for depth in range(1, 33):
                self.are([nested(kind, depth)], False)
            deep = nested(kind, 31)
            self.are([town(deep), town(roads=deep), town(stands=deep), town(reach=deep)], False)
            deep = nested(kind, 28)
            self.are([town(roads=((deep, "b", 1, 1),)), town(roads=(("a", "b", 1, deep),)), town(stands=(deep,))], False)
