"""[12] what a place reaches, lost places, bare places."""

from tests.samples import FULL, LONELY, ROW_OF_TEN, SMALL, TEN_PLACES, Case, random_shut, random_town
from wagoncalls.near import bare, lost, reached
from wagoncalls.ways import chart_of


def with_reach(town, reach):
    return town[:3] + (reach,)


class NearTests(Case):
    def test_reached(self):
        chart = chart_of(SMALL, ())
        self.same(self.ask(reached, SMALL, chart, "gate"), ["gate", "mill", "dock"])
        self.same(self.ask(reached, SMALL, chart, "mill"), ["gate", "mill", "dock"])
        self.same(self.ask(reached, SMALL, chart, "dock"), ["dock"])
        self.same(self.ask(reached, LONELY, chart_of(LONELY, ()), "a"), ["a"])

    def test_just_the_reach_and_a_minute_beyond(self):
        chart = chart_of(SMALL, ())
        for reach in range(0, 121):
            town = with_reach(SMALL, reach)
            gate = ["gate"] + (["mill"] if reach >= 5 else []) + (["dock"] if reach >= 8 else [])
            mill = (["gate"] if reach >= 7 else []) + ["mill"] + (["dock"] if reach >= 3 else [])
            self.same(self.ask(reached, town, chart, "gate"), gate)
            self.same(self.ask(reached, town, chart, "mill"), mill)
            self.same(self.ask(reached, town, chart, "dock"), ["dock"])
            self.same(self.ask(lost, town, chart), [] if reach >= 5 else ["mill"])

    def test_reach_120(self):
        town = (TEN_PLACES[:4], tuple((TEN_PLACES[at], TEN_PLACES[at + 1], 60, 60) for at in range(3)), ("p0",), 120)
        chart = chart_of(town, ())
        self.same(reached(town, chart, "p0"), ["p0", "p1", "p2"])
        self.same(lost(town, chart), ["p3"])
        self.same(bare(town, chart, ["p3"]), ["p0"])

    def test_shut_roads(self):
        chart = chart_of(SMALL, (0,))
        self.same(self.ask(reached, SMALL, chart, "gate"), ["gate"])
        self.same(self.ask(lost, SMALL, chart), ["mill"])
        self.same(self.ask(bare, SMALL, chart, ["gate"]), ["mill", "dock"])

    def test_in_the_towns_order(self):
        town = (("z", "m", "a"), (("a", "z", 1, 1), ("a", "m", 1, 1)), ("a",), 2)
        chart = chart_of(town, ())
        for place in town[0]:
            self.same(self.ask(reached, town, chart, place), ["z", "m", "a"])
        self.same(self.ask(bare, town, chart, []), ["z", "m", "a"])
        self.same(self.ask(lost, town, chart_of(town, (0, 1))), ["z", "m"])

    def test_lost_is_of_the_stands(self):
        chart = chart_of(ROW_OF_TEN, ())
        self.same(self.ask(lost, ROW_OF_TEN, chart), ["p6", "p7", "p8"])
        self.same(self.ask(lost, with_reach(ROW_OF_TEN, 0), chart), list(TEN_PLACES[1:9]))
        self.same(self.ask(lost, LONELY, ((0,),)), [])
        self.same(self.ask(lost, FULL, chart_of(FULL, ())), ["u", "t", "s", "r"])

    def test_bare(self):
        chart = chart_of(ROW_OF_TEN, ())
        self.same(self.ask(bare, ROW_OF_TEN, chart, []), list(TEN_PLACES))
        self.same(self.ask(bare, ROW_OF_TEN, chart, ["p0"]), ["p6", "p7", "p8", "p9"])
        self.same(self.ask(bare, ROW_OF_TEN, chart, ["p9", "p0"]), ["p6", "p7", "p8"])
        self.same(self.ask(bare, ROW_OF_TEN, chart, ["p0", "p0", "p0"]), ["p6", "p7", "p8", "p9"])
        self.same(self.ask(bare, ROW_OF_TEN, chart, ["p6", "p0", "p6"]), ["p9"])
        self.same(self.ask(bare, ROW_OF_TEN, chart, list(TEN_PLACES)), [])
        self.same(self.ask(bare, LONELY, ((0,),), []), ["a"])
        self.same(self.ask(bare, LONELY, ((0,),), ["a", "a"]), [])

    def test_each_list_is_a_new_one(self):
        chart = chart_of(ROW_OF_TEN, ())
        posts = ["p0", "p9"]
        for told in [lambda: reached(ROW_OF_TEN, chart, "p0"), lambda: lost(ROW_OF_TEN, chart),
                     lambda: bare(ROW_OF_TEN, chart, posts), lambda: bare(ROW_OF_TEN, chart, [])]:
            first = told()
            due = list(first)
            first.reverse()
            first.append("p1")
            second = told()
            self.assertIsNot(first, second)
            self.same(second, due)
            second.clear()
            self.same(told(), due)
        self.same(posts, ["p0", "p9"])

    def test_many_towns(self):
        for seed in range(200):
            town = random_town(seed, 8, 12, 60)
            chart = chart_of(town, random_shut(seed, town))
            near = {}
            for at, place in enumerate(town[0]):
                minutes = [row[at] for row in chart]
                near[place] = [goal for goal, far in zip(town[0], minutes) if far is not None and far <= town[3]]
                self.same(self.ask(reached, town, chart, place), near[place])
            for posts in [list(town[2]), list(town[0][::2]), list(town[0][:1] * 3), list(reversed(town[0]))]:
                due = [goal for goal in town[0] if not any(goal in near[post] for post in posts)]
                self.same(self.ask(bare, town, chart, posts), due)
            self.same(self.ask(lost, town, chart), bare(town, chart, list(town[2])))
