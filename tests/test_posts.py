"""[13] the fewest posts, told with a tree that shows them."""

import random

from tests.samples import FULL, LONELY, ROW_OF_TEN, SMALL, TEN_PLACES, Case, random_shut, random_town
from tests.secondtrees import all_fewest, due_posts_tree, held_by, uncovered
from wagoncalls.posts import fewest_posts
from wagoncalls.trees import shows_posts
from wagoncalls.ways import chart_of


class PostTests(Case):
    def fewest(self, town, shut=()):
        """The fewest posts, held against a search over all sets, and their tree against both readings of [14]."""
        chart = chart_of(town, shut)
        told = self.ask(fewest_posts, town, chart)
        self.assertIs(type(told), tuple)
        posts, tree = told
        self.same(posts, all_fewest(town, chart))
        self.same(due_posts_tree(town, chart, posts, tree), True)
        self.same(self.ask(shows_posts, town, chart, posts, tree), True)
        return posts

    def test_told(self):
        self.same(self.fewest(SMALL), ("gate",))
        self.same(self.fewest(SMALL[:3] + (7,)), ("gate", "dock"))
        self.same(self.fewest(SMALL[:3] + (3,)), ("gate", "dock"))
        self.same(self.fewest(SMALL, (0,)), ("gate", "dock"))
        self.same(self.fewest(ROW_OF_TEN), ("p0", "p9"))

    def test_one_place(self):
        self.same(self.fewest(LONELY), ("a",))
        self.same(self.fewest((("a",), (), ("a",), 120)), ("a",))

    def test_a_tree_of_one_stand(self):
        self.same(fewest_posts(LONELY, ((0,),)), (("a",), ("by", "a", (("a", ("full",)),))))

    def test_without_roads_each_stand_is_needed(self):
        for reach in [0, 120]:
            for stands in [("p3",), ("p9", "p0"), ("p4", "p2", "p0", "p8", "p6")]:
                self.same(self.fewest((TEN_PLACES, (), stands, reach)), stands)
        for town in [SMALL, ROW_OF_TEN, FULL]:
            self.same(self.fewest(town, tuple(range(len(town[1])))), town[2])

    def test_a_reach_of_0_and_of_120(self):
        ring = tuple((TEN_PLACES[at], TEN_PLACES[(at + 1) % 10], 60, 60) for at in range(10))
        stands = ("p8", "p6", "p4", "p2", "p0")
        self.same(self.fewest((TEN_PLACES, ring, stands, 0)), stands)
        self.same(self.fewest((TEN_PLACES, ring, stands, 60)), stands)
        self.same(self.fewest((TEN_PLACES, ring, stands, 119)), stands)
        self.same(self.fewest((TEN_PLACES, ring, stands, 120)), ("p8", "p6", "p2"))

    def test_lost_places_need_no_post(self):
        town = (TEN_PLACES, (("p0", "p1", 5, 5), ("p2", "p3", 5, 5)), ("p0", "p1"), 5)
        self.same(self.fewest(town), ("p0",))
        self.same(self.fewest(town[:3] + (4,)), ("p0", "p1"))

    def test_just_the_reach_and_a_minute_beyond(self):
        town = (("a", "b", "c"), (("a", "b", 9, 9), ("b", "c", 9, 8)), ("a", "b", "c"), 9)
        self.same(self.fewest(town), ("b",))
        self.same(self.fewest(town[:3] + (8,)), ("a", "c"))
        self.same(self.fewest(town[:3] + (7,)), ("a", "b", "c"))

    def test_the_first_by_the_stands_numbers(self):
        roads = (("a", "b", 1, 1),)
        self.same(self.fewest((("a", "b"), roads, ("a", "b"), 1)), ("a",))
        self.same(self.fewest((("a", "b"), roads, ("b", "a"), 1)), ("b",))
        star = tuple(("m", place, 1, 1) for place in ["z", "y", "x"])
        self.same(self.fewest((("m", "x", "y", "z"), star, ("z", "x", "y"), 2)), ("z",))
        self.same(self.fewest((("m", "x", "y", "z"), star, ("z", "m", "y"), 1)), ("m",))
        # Just a and d cover, or c and b: where the stand 0 is, though the stand 3 is with it.
        square = (("a", "c", 1, None), ("d", "b", 1, None), ("b", "a", 1, None), ("c", "d", 1, None))
        for stands, due in [("abcd", "ad"), ("dcba", "da"), ("cadb", "cb"), ("bdac", "bc"), ("badc", "bc")]:
            self.same(self.fewest((("a", "b", "c", "d"), square, tuple(stands), 1)), tuple(due))

    def test_one_stand_none_needed_besides(self):
        star = tuple((TEN_PLACES[9], place, 60, 1) for place in TEN_PLACES[:9])
        self.same(self.fewest((TEN_PLACES, star, ("p0", "p1", "p2", "p3", "p9"), 60)), ("p9",))
        self.same(self.fewest((TEN_PLACES, star, ("p0", "p1", "p2", "p3", "p9"), 61)), ("p0",))

    def test_all_five(self):
        self.same(self.fewest(held_by([0], [1], [2], [3], [4])), ("s0", "s1", "s2", "s3", "s4"))
        self.same(self.fewest((TEN_PLACES, (), TEN_PLACES[:5], 3)), TEN_PLACES[:5])

    def test_by_turns_and_again(self):
        towns = [SMALL, ROW_OF_TEN, FULL, LONELY]
        first = [fewest_posts(town, chart_of(town, ())) for town in towns]
        for _ in range(3):
            for town, due in zip(towns, first):
                self.fewest(town, tuple(range(len(town[1]))))
                self.same(fewest_posts(town, chart_of(town, ())), due)

    def test_many_towns(self):
        told = {}
        for seed in range(700):
            town = random_town(seed, 10, 18, 60 if seed % 3 else 6)
            posts = self.fewest(town, random_shut(seed, town))
            told[len(posts)] = told.get(len(posts), 0) + 1
        for many in [1, 2, 3, 4, 5]:
            self.assertGreater(told[many], 10)

    def test_many_charts_of_stands_that_reach_each_other(self):
        chance = random.Random(13)
        told = {}
        for _ in range(400):
            many = chance.randint(2, 10)
            stands = tuple(chance.sample(TEN_PLACES[:many], min(many, 5)))
            share = chance.choice([2, 3, 4])
            roads = [(one, other, 1, None) for one in stands for other in TEN_PLACES[:many]
                     if one != other and chance.randrange(12) < share]
            town = (TEN_PLACES[:many], tuple(roads[:18]), stands, 1)
            posts = self.fewest(town)
            # None of the fewest can be left out.
            for at in range(len(posts)):
                self.assertTrue(uncovered(town, chart_of(town, ()), posts[:at] + posts[at + 1:]))
            told[len(posts)] = told.get(len(posts), 0) + 1
        for many in [1, 2, 3, 4]:
            self.assertGreater(told[many], 10)


if __name__ == "__main__":
    import unittest
    unittest.main()
