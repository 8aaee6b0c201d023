"""[14] trees of posts and [16] trees of moves: which of them show posts, or a plan."""

import copy
import random

from tests.samples import LONELY, ROW_OF_TEN, SMALL, Case, nested, odd_things, random_shut, random_town
from tests.secondtrees import (
    all_fewest, all_least, behind, due_moves_tree, due_posts_tree, held_by, nodes, other_moves_tree, other_posts_tree,
    random_rows, spoilt, uncovered)
from wagoncalls.plans import least_plan
from wagoncalls.posts import fewest_posts
from wagoncalls.trees import shows_moves, shows_posts
from wagoncalls.ways import chart_of

FULL_TREE = ("full",)
# The stands a, b, c reach a and b, b and c, c alone; d and e are reached by none.
FORK = (("a", "b", "c", "d", "e"), (("a", "b", 1, None), ("b", "c", 1, None)), ("a", "b", "c"), 1)
FORK_TREE = ("by", "a", (("a", ("by", "c", (("b", FULL_TREE), ("c", FULL_TREE)))),))
PLACES = ("a", "b", "c", "d")
# No roads: each stand reaches itself.
ALONE = (PLACES, (), ("a", "b", "c"), 5)
ROWS = [("u", "a", ("b", "c")), ("v", "d", ("a", "b", "c")), ("w", "b", ())]
# c is held by v, and a and b by u and w; or u goes to c, and v to a.
MOVES_TREE = ("by", "c", (("u", "c", ("bare", "a")), ("v", "c", FULL_TREE)))


def branch_things(branches):
    """What may stand in the place of branches, and is none such."""
    return [list(branches), [list(branch) for branch in branches], tuple(list(branch) for branch in branches),
            dict(enumerate(branches)), {}, None, True, "", "by", 0, (), branches + ((),), branches + (None,),
            branches + branches[:1], branches[1:], branches[:-1], (branches,), branches + (branches,)]


class PostTreeTests(Case):
    def are(self, due, town, posts, things, shut=()):
        chart = chart_of(town, shut)
        for thing in things:
            with self.subTest(thing=thing):
                self.same(self.ask(shows_posts, town, chart, posts, thing), due)
                self.same(due_posts_tree(town, chart, posts, thing), due)

    def test_a_tree(self):
        self.are(True, FORK, ("a", "b"), [FORK_TREE])
        self.are(True, LONELY, ("a",), [("by", "a", (("a", FULL_TREE),))])
        self.are(True, ALONE, ("a", "b", "c"), [
            ("by", "b", (("b", ("by", "a", (("a", ("by", "c", (("c", FULL_TREE),))),))),)),
            ("by", "c", (("c", ("by", "b", (("b", ("by", "a", (("a", FULL_TREE),))),))),)),
        ])

    def test_by_another_hand(self):
        self.are(True, FORK, ("a", "b"), [
            ("by", "a", (("a", ("by", "c", (("c", FULL_TREE), ("b", FULL_TREE)))),)),
            ("by", "b", (("b", ("by", "a", (("a", FULL_TREE),))), ("a", ("by", "c", (("c", FULL_TREE), ("b", FULL_TREE)))))),
            ("by", "c", (("c", ("by", "b", (("a", FULL_TREE), ("b", ("bare", "a"))))), ("b", ("by", "a", (("a", FULL_TREE),))))),
            ("by", "c", (("b", ("by", "a", (("a", FULL_TREE),))), ("c", ("by", "a", (("a", FULL_TREE),))))),
        ])

    def test_bare_where_it_is_not(self):
        self.are(False, FORK, ("a", "b"), [
            ("bare", "a"), ("bare", "b"), ("bare", "d"),
            ("by", "a", (("a", ("bare", "c")),)), ("by", "a", (("a", ("bare", "a")),)), ("by", "a", (("a", ("bare", "d")),)),
            ("by", "a", (("a", ("by", "c", (("b", ("bare", "a")), ("c", FULL_TREE)))),)),
            ("by", "a", (("a", ("by", "c", (("b", FULL_TREE), ("c", ("bare", "d"))))),)),
            ("by", "a", (("a", ("by", "c", (("b", FULL_TREE), ("c", ("bare", "x"))))),)),
        ])
        tree = ("by", "c", (("b", ("by", "a", (("a", FULL_TREE),))), ("c", ("by", "b", (("a", FULL_TREE), ("b", ("bare", "a")))))))
        self.are(True, FORK, ("a", "b"), [tree])
        for place in ["b", "c", "d", "e", "x", "", "a ", None, ["a"], ("a",), True]:
            wrong = ("by", "c", (tree[2][0], ("c", ("by", "b", (("a", FULL_TREE), ("b", ("bare", place)))))))
            self.are(False, FORK, ("a", "b"), [wrong])

    def test_by_where_it_may_not_be(self):
        self.are(False, FORK, ("a", "b"), [
            ("by", "d", ()), ("by", "d", FORK_TREE[2]), ("by", "x", ()), ("by", "b", FORK_TREE[2]), ("by", "c", FORK_TREE[2]),
            ("by", "a", (("a", ("by", "a", (("a", FULL_TREE),))),)), ("by", "a", (("a", ("by", "d", ())),)),
            ("by", "a", (("a", ("by", "b", (("a", FULL_TREE), ("b", FULL_TREE)))),)), ("by", "a", ()),
        ])
        deeper = ("by", "a", (("a", FULL_TREE),))
        self.are(True, FORK, ("a", "b"), [("by", "c", (("b", deeper), ("c", deeper)))])
        more = ("by", "b", (("a", FULL_TREE), ("b", ("by", "a", (("a", FULL_TREE),)))))
        self.are(False, FORK, ("a", "b"), [("by", "c", (("b", deeper), ("c", more)))])
        self.are(False, FORK, ("a", "b"), [("by", "c", (("b", deeper), ("c", ("by", "a", (("a", ("by", "d", ())),)))))])

    def test_full_too_early_and_too_late(self):
        self.are(False, FORK, ("a", "b"), [FULL_TREE, ("by", "a", (("a", FULL_TREE),))])
        self.are(False, FORK, ("a", "b", "c"), [FORK_TREE, FULL_TREE])
        self.are(False, FORK, ("a",), [FORK_TREE, FULL_TREE, ("by", "a", (("a", FULL_TREE),))])
        # Fewer posts cover: a tree that goes on where nothing lacks shows nothing.
        line = (("a", "b"), (("a", "b", 1, 1),), ("a", "b"), 1)
        self.are(False, line, ("a", "b"), [
            ("by", "a", (("a", FULL_TREE), ("b", FULL_TREE))), FULL_TREE,
            ("by", "a", (("a", ("by", "b", (("a", FULL_TREE), ("b", FULL_TREE)))), ("b", FULL_TREE))),
        ])
        self.are(True, line, ("a",), [("by", "a", (("a", FULL_TREE), ("b", FULL_TREE))), ("by", "b", (("b", FULL_TREE), ("a", FULL_TREE)))])

    def test_chosen_ones_ahead_of_the_posts(self):
        line = (("a", "b"), (("a", "b", 1, 1),), ("a", "b"), 1)
        self.are(False, line, ("b",), [("by", "a", (("a", FULL_TREE), ("b", FULL_TREE)))])
        self.are(False, FORK, ("a", "c"), [FORK_TREE])
        # By the stands' numbers, not by their names.
        turned = FORK[:2] + (("c", "b", "a"), 1)
        tree = ("by", "a", (("a", ("by", "c", (("b", FULL_TREE), ("c", FULL_TREE)))),))
        self.are(True, turned, ("c", "a"), [tree])
        self.are(False, turned, ("b", "a"), [tree])

    def test_chosen_ones_that_do_not_cover(self):
        self.are(False, ALONE, ("a", "b", "c"), [("by", "a", (("a", ("by", "b", (("b", FULL_TREE),))),))])
        self.are(False, ALONE, ("a", "b"), [("by", "a", (("a", ("by", "b", (("b", FULL_TREE),))),))])
        self.are(True, ALONE, ("a", "b"), [("by", "a", (("a", ("by", "b", (("b", ("bare", "c")),))),))])

    def test_branches(self):
        right = (("b", FULL_TREE), ("c", FULL_TREE))
        self.are(True, FORK, ("a", "b"), [("by", "a", (("a", ("by", "c", right)),))])
        wrong = branch_things(right) + [
            right + (("a", FULL_TREE),), right + (("b", FULL_TREE),), (("b", FULL_TREE),), (("b", FULL_TREE),) * 2,
            (("c", FULL_TREE),) * 2, (("b", FULL_TREE), ("a", FULL_TREE)), (("b", FULL_TREE), ("d", FULL_TREE)),
            (("b", FULL_TREE), ("c", FULL_TREE, None)), (("b", FULL_TREE), ("c",)), (("b", FULL_TREE), ()),
            (("b", FULL_TREE), (FULL_TREE, "c")), (("b", FULL_TREE), ("", "c", FULL_TREE)), (("b", FULL_TREE), ("c ", FULL_TREE)),
            (("b", FULL_TREE), ("C", FULL_TREE)), (("b", FULL_TREE), ("cc", FULL_TREE)), (("b", FULL_TREE), ("", FULL_TREE)),
            (("b", FULL_TREE), ["c", FULL_TREE]), (("b", FULL_TREE), (["c"], FULL_TREE)), (("b", FULL_TREE), (("c",), FULL_TREE)),
            (("b", FULL_TREE), (None, FULL_TREE)), (("b", FULL_TREE), ({}, FULL_TREE)), (("b", FULL_TREE), "cf"),
            (("b", FULL_TREE), None), (("b", FULL_TREE), ("c", None)), (("b", FULL_TREE), ("c", ["full"])), "bc",
            (("b", FULL_TREE), ("c", ("full", 0))), (("b", FULL_TREE), ("c", "full")), (("b", FULL_TREE), ("c", ())),
        ]
        self.are(False, FORK, ("a", "b"), [("by", "a", (("a", ("by", "c", branches)),)) for branches in wrong])

    def test_words_and_parts(self):
        self.are(True, LONELY, ("a",), [("by", "a", (("a", FULL_TREE),))])
        branches = (("a", FULL_TREE),)
        self.are(False, LONELY, ("a",), [
            ("By", "a", branches), ("by ", "a", branches), ("b", "a", branches), ("bye", "a", branches), ("", "a", branches),
            (None, "a", branches), (("by",), "a", branches), (["by"], "a", branches), ("by", "a"), ("by", branches), ("by",),
            ("by", "a", branches, None), ("by", "a", branches, branches), ("a", branches), ("by", branches, "a"),
            ["by", "a", branches], ["by", "a", [["a", ["full"]]]], {"by": "a"}, ("full", "a", branches), ("bare", "a", branches),
            ("by", "a", (("a", ("full", ())),)), ("by", "a", (("a", ("full", "a")),)), ("by", "a", (("a", ("Full",)),)),
            ("by", "a", (("a", ("ful",)),)), ("by", "a", (("a", ("fulls",)),)), ("by", "a", (("a", ("bare",)),)),
            ("by", "a", (("a", ["full"]),)), ("by", "a", (("a", ("by",)),)), ("by", "a", (("a", ("bare", "a")),)),
            ("bare",), ("bare", "a", None), ("full", None), ("bare", "a"), (("by", "a", branches),), (True,), (),
        ])

    def test_of_anything(self):
        for town, posts in [(LONELY, ("a",)), (FORK, ("a", "b")), (ROW_OF_TEN, ("p0", "p9"))]:
            self.are(False, town, posts, odd_things())
            place = town[0][0]
            for thing in odd_things():
                self.are(False, town, posts, [("by", place, thing), ("by", thing, ()), ("bare", thing), ("full", thing),
                                              (thing,), (thing, place, ()), ("by", place, (thing,)), (thing, thing, thing)])
        for kind in [list, tuple, dict]:
            self.are(False, LONELY, ("a",), [("by", "a", (("a", nested(kind, 28)),)), ("by", "a", nested(kind, 31))])

    def test_a_chain_thirty_two_deep(self):
        tree = FULL_TREE
        for _ in range(10):
            tree = ("by", "a", (("a", tree),))
        self.are(False, LONELY, ("a",), [tree])
        self.are(False, ALONE, ("a", "b", "c"), [tree])

    def test_of_shut_roads(self):
        self.are(True, SMALL, ("gate",), [("by", "gate", (("gate", FULL_TREE),))])
        self.are(False, SMALL, ("gate",), [("by", "gate", (("gate", FULL_TREE),))], (0,))
        apart = ("by", "gate", (("gate", ("by", "dock", (("dock", FULL_TREE),))),))
        self.are(True, SMALL, ("gate", "dock"), [apart], (0,))
        self.are(False, SMALL, ("gate", "dock"), [apart])

    def test_many_trees(self):
        chance = random.Random(14)
        told = {True: 0, False: 0}
        for seed in range(400):
            town = random_town(seed, 7, 10, 60 if seed % 3 else 8)
            chart = chart_of(town, random_shut(seed, town))
            posts = all_fewest(town, chart)
            sets = [posts, posts, tuple(town[2]), tuple(stand for stand in town[2] if chance.random() < 0.7)]
            for asked in sets:
                tree = other_posts_tree(chance, town, chart, len(asked))
                for thing in [tree, fewest_posts(town, chart)[1], *spoilt(chance, town, tree, 12)]:
                    due = due_posts_tree(town, chart, asked, thing)
                    if due and not uncovered(town, chart, asked):
                        self.assertEqual(asked, posts)
                    self.same(self.ask(shows_posts, town, chart, asked, thing), due)
                    told[due] += 1
            self.same(shows_posts(town, chart, posts, other_posts_tree(chance, town, chart, len(posts))), True)
        self.assertGreater(min(told.values()), 1000)

    def test_asked_again_and_by_turns(self):
        for _ in range(3):
            self.are(True, FORK, ("a", "b"), [FORK_TREE])
            self.are(False, LONELY, ("a",), [FORK_TREE])
            self.are(False, FORK, ("a", "b"), [FORK_TREE], (0,))
            self.are(False, FORK, ("a", "c"), [FORK_TREE])


class MoveTreeTests(Case):
    def are(self, due, town, rows, plan, things, shut=()):
        chart = chart_of(town, shut)
        for thing in things:
            with self.subTest(thing=thing):
                self.same(self.ask(shows_moves, town, chart, rows, plan, thing), due)
                self.same(due_moves_tree(town, chart, rows, plan, thing), due)

    def test_a_tree(self):
        self.are(True, ALONE, ROWS, [("v", "c")], [MOVES_TREE])
        self.are(True, LONELY, [("w", "a", ())], [], [FULL_TREE])
        self.are(True, LONELY, [("w", "a", ("a",))], [], [FULL_TREE])

    def test_by_another_hand(self):
        self.are(True, ALONE, ROWS, [("v", "c")], [("by", "c", (("v", "c", FULL_TREE), ("u", "c", ("bare", "a"))))])
        rows = [("u", "d", ("a", "b")), ("v", "d", ("a", "b")), ("w", "c", ())]
        plan = [("u", "a"), ("v", "b")]
        self.are(True, ALONE, rows, plan, [
            ("by", "a", (("u", "a", ("by", "b", (("v", "b", FULL_TREE),))), ("v", "a", ("by", "b", (("u", "b", FULL_TREE),))))),
            ("by", "b", (("v", "b", ("by", "a", (("u", "a", FULL_TREE),))), ("u", "b", ("by", "a", (("v", "a", FULL_TREE),))))),
        ])

    def test_trees_that_show_none(self):
        self.are(True, LONELY, [], None, [("bare", "a")])
        self.are(False, LONELY, [], None, [("by", "a", ()), FULL_TREE, ("bare", "b"), ("bare",), ()])
        self.are(False, LONELY, [], [], [("by", "a", ()), FULL_TREE])
        rows = [("u", "d", ("a", "b")), ("v", "d", ("a", "b")), ("w", "d", ("a", "b"))]
        self.are(True, ALONE, rows, None, [("bare", "c"), ("by", "c", ())])
        self.are(False, ALONE, rows, None, [("bare", "a"), ("bare", "b"), ("bare", "d"), ("by", "a", ()), ("by", "d", ()), FULL_TREE])
        two = [("u", "d", ("a", "b", "c")), ("v", "d", ("a", "b", "c"))]
        tree = ("by", "a", (("u", "a", ("by", "b", (("v", "b", ("bare", "c")),))), ("v", "a", ("by", "c", (("u", "c", ("bare", "b")),)))))
        self.are(True, ALONE, two, None, [tree])
        self.are(False, ALONE, two, None, [
            ("by", "a", (("u", "a", ("bare", "b")), tree[2][1])), ("by", "a", (tree[2][0], ("v", "a", ("bare", "b")))),
            ("by", "a", (("u", "a", ("by", "b", (("v", "b", FULL_TREE),))), tree[2][1])),
            ("by", "a", (("u", "a", ("by", "b", (("v", "b", ("by", "c", ())),))), tree[2][1])),
        ])

    def test_full_where_there_is_no_plan(self):
        rows = [("u", "d", ("a",)), ("v", "b", ()), ("w", "c", ())]
        tree = ("by", "a", (("u", "a", FULL_TREE),))
        self.are(True, ALONE, rows, [("u", "a")], [tree])
        self.are(False, ALONE, rows, None, [tree, FULL_TREE, ("bare", "a"), ("by", "a", ())])
        self.are(False, LONELY, [("w", "a", ())], None, [FULL_TREE, ("bare", "a"), ("by", "a", ())])

    def test_options_by_what_is_chosen_so_far(self):
        rows = [("u", "a", ("a", "b", "c")), ("v", "a", ("a", "b", "c")), ("w", "a", ("a", "b", "c"))]
        plan = [("u", "b"), ("v", "c")]

        def by_c(*wagons):
            return ("by", "c", tuple((wagon, "c", FULL_TREE) for wagon in wagons))

        right = ("by", "b", (("u", "b", by_c("v", "w")), ("v", "b", by_c("u", "w")), ("w", "b", by_c("v", "u"))))
        self.are(True, ALONE, rows, plan, [right])
        for wrong in [by_c("u", "v", "w"), by_c("u", "v"), by_c("v"), by_c("w"), by_c("v", "v"), by_c(), by_c("v", "w", "w")]:
            self.are(False, ALONE, rows, plan, [("by", "b", (("u", "b", wrong), *right[2][1:]))])
        # Behind two moves away from it a is bare: no more may be chosen, but with three it is held again.
        self.are(False, ALONE, rows, [("u", "b"), ("w", "c")], [right])
        self.are(False, ALONE, rows, [("u", "b"), ("v", "c"), ("w", "b")], [right])

    def test_a_post_that_is_in_its_own_can_is_no_option(self):
        rows = [("u", "a", ("a", "b")), ("v", "a", ("a",)), ("w", "c", ("c",))]
        self.are(True, ALONE, rows, [("u", "b")], [("by", "b", (("u", "b", FULL_TREE),))])
        away = ("by", "b", (("u", "b", ("by", "a", (("v", "a", FULL_TREE),))),))
        self.are(False, ALONE, rows, [("u", "b"), ("v", "a")], [away])
        # u alone holds a; what is moved from there is not moved back.
        rows = [("u", "a", ("a", "b")), ("w", "c", ("c",))]
        self.are(True, ALONE, rows, None, [("by", "b", (("u", "b", ("bare", "a")),)), ("by", "b", (("u", "b", ("by", "a", ())),))])
        self.are(False, ALONE, rows, None, [("by", "b", (("u", "b", ("by", "a", (("u", "a", ("bare", "b")),))),))])

    def test_a_place_without_an_option(self):
        rows = [("u", "d", ("a",)), ("v", "d", ("a", "b")), ("w", "d", ("b",))]
        self.are(True, ALONE, rows, None, [("bare", "c"), ("by", "c", ())])
        self.are(True, ALONE, rows, None, [("by", "a", (("v", "a", ("bare", "c")), ("u", "a", ("by", "c", ()))))])
        self.are(False, ALONE, rows, None, [("by", "a", (("v", "a", ("bare", "b")), ("u", "a", ("bare", "c")))), ("bare", "a"), ("by", "b", ())])

    def test_the_most_are_chosen(self):
        rows = [("u", "d", ("a", "b")), ("v", "b", ("a",)), ("w", "c", ())]
        self.are(True, ALONE, rows, [("u", "a")], [("by", "a", (("u", "a", FULL_TREE), ("v", "a", ("bare", "b"))))])
        more = ("by", "b", (("u", "b", FULL_TREE),))
        self.are(False, ALONE, rows, [("u", "a")], [("by", "a", (("u", "a", FULL_TREE), ("v", "a", more)))])
        self.are(False, ALONE, rows, [("u", "b"), ("v", "a")], [
            ("by", "a", (("u", "a", FULL_TREE), ("v", "a", more))), ("by", "a", (("u", "a", ("bare", "b")), ("v", "a", more)))])

    def test_full_too_early_and_chosen_ones_that_do_not_cover(self):
        self.are(False, ALONE, ROWS, [("v", "c")], [
            FULL_TREE, ("bare", "c"), ("by", "c", (("u", "c", FULL_TREE), ("v", "c", FULL_TREE))),
            ("by", "c", (("u", "c", ("bare", "a")), ("v", "c", ("bare", "a"))))])
        self.are(False, LONELY, [("w", "a", ())], [("w", "a")], [FULL_TREE])

    def test_chosen_ones_ahead_of_the_plan(self):
        rows = [("u", "d", ("a", "b")), ("v", "d", ("a", "b")), ("w", "c", ())]
        tree = ("by", "a", (("u", "a", ("by", "b", (("v", "b", FULL_TREE),))), ("v", "a", ("by", "b", (("u", "b", FULL_TREE),)))))
        self.are(True, ALONE, rows, [("u", "a"), ("v", "b")], [tree])
        self.are(False, ALONE, rows, [("u", "b"), ("v", "a")], [tree])
        # By the stands' names, as lists are ordered, not by their numbers.
        turned = ALONE[:2] + (("b", "a", "c"), 5)
        turned_rows = [("u", "d", ("b", "a")), ("v", "d", ("b", "a")), ("w", "c", ())]
        self.are(True, turned, turned_rows, [("u", "a"), ("v", "b")], [tree])
        self.are(False, turned, turned_rows, [("u", "b"), ("v", "a")], [tree])

    def test_branches(self):
        right = (("u", "c", ("bare", "a")), ("v", "c", FULL_TREE))
        self.are(True, ALONE, ROWS, [("v", "c")], [("by", "c", right)])
        one = right[:1]
        wrong = branch_things(right) + [
            right + (("w", "c", ("bare", "b")),), right + (("v", "a", ("bare", "c")),), one + (("v", "b", FULL_TREE),),
            one + (("w", "c", FULL_TREE),), one + (("vv", "c", FULL_TREE),), one + (("v", "cc", FULL_TREE),),
            one + (("V", "c", FULL_TREE),), one + (("c", "v", FULL_TREE),), one + (("v", "c"),), one + (("v", FULL_TREE),),
            one + (("v", "c", FULL_TREE, None),), one + ((("v", "c"), FULL_TREE),), one + (["v", "c", FULL_TREE],),
            one + ((["v"], "c", FULL_TREE),), one + (("v", ["c"], FULL_TREE),), one + (("v", ("c",), FULL_TREE),),
            one + ((None, "c", FULL_TREE),), one + (("v", None, FULL_TREE),), one + (("v", {}, FULL_TREE),),
            one + (("v", "c", None),), one + (("v", "c", ["full"]),), one + (("v", "c", "full"),), one + ("vcf",), one * 2,
            one + (("v", "c", ("bare", "c")),), (("u", "c", ("bare", "c")), right[1]), (("u", "c", ("bare", "d")), right[1]),
        ]
        self.are(False, ALONE, ROWS, [("v", "c")], [("by", "c", branches) for branches in wrong])

    def test_lost_places_and_places_that_are_held(self):
        for place in ["a", "b", "d", "x", "", "c ", None, True, ["c"], ("c",), {}]:
            self.are(False, ALONE, ROWS, [("v", "c")], [("by", place, MOVES_TREE[2]), ("bare", place)])
            self.are(False, ALONE, ROWS, [("v", "c")], [("by", place, ())])
            self.are(place == "a", ALONE, ROWS, [("v", "c")], [("by", "c", (("u", "c", ("bare", place)), MOVES_TREE[2][1]))])

    def test_words_and_parts(self):
        branches = MOVES_TREE[2]
        self.are(False, ALONE, ROWS, [("v", "c")], [
            ("By", "c", branches), ("by ", "c", branches), ("b", "c", branches), ("", "c", branches), (None, "c", branches),
            (("by",), "c", branches), ("by", "c"), ("by", branches), ("by",), ("by", "c", branches, None), ("c", branches),
            ["by", "c", branches], ("full", "c", branches), ("bare", "c", branches), {"by": "c"}, ("by", branches, "c"),
            ("by", "c", (branches[0], ("v", "c", ("full", None)))), ("by", "c", (branches[0], ("v", "c", ("Full",)))),
            ("by", "c", (branches[0], ("v", "c", ("bare",)))), ("by", "c", (("u", "c", ("bare", "a", None)), branches[1])),
            ("by", "c", (("u", "c", ("bare",)), branches[1])), ("by", "c", (("u", "c", ("Bare", "a")), branches[1])),
            ("by", "c", (("u", "c", ["bare", "a"]), branches[1])), ("by", "c", (("u", "c", ("a", "bare")), branches[1])),
        ])

    def test_of_anything(self):
        for town, rows, plan in [(ALONE, ROWS, [("v", "c")]), (LONELY, [("w", "a", ())], []), (LONELY, [], None)]:
            self.are(False, town, rows, plan, odd_things())
            for thing in odd_things():
                for place in [town[0][0], "c"]:
                    self.are(False, town, rows, plan, [
                        ("by", thing, ()), ("full", thing), (thing,), (thing, place, ()), ("by", place, (thing,)),
                        (thing, thing, thing), ("bare", place, thing), ("by", place, ((thing, place, thing),))])
                if thing != "a":
                    self.are(False, town, rows, plan, [("bare", thing)])
        self.are(False, ALONE, ROWS, [("v", "c")], [("by", "c", (MOVES_TREE[2][0], ("v", "c", nested(kind, 28))))
                                                   for kind in [list, tuple, dict]])

    def test_a_chain_thirty_two_deep(self):
        tree = FULL_TREE
        for _ in range(10):
            tree = ("by", "a", (("u", "a", tree),))
        for plan in [None, [("u", "a")]]:
            self.are(False, ALONE, [("u", "d", ("a",)), ("v", "b", ()), ("w", "c", ())], plan, [tree])

    def test_of_shut_roads(self):
        rows = [("u", "gate", ("gate", "dock")), ("v", "mill", ("gate", "dock"))]
        self.are(True, SMALL, rows, [], [FULL_TREE])
        self.are(True, SMALL, rows, [], [FULL_TREE], (0,))
        self.are(False, SMALL, rows, [], [FULL_TREE], (0, 1))
        tree = ("by", "dock", (("u", "dock", ("bare", "gate")), ("v", "dock", FULL_TREE)))
        self.are(True, SMALL, rows, [("v", "dock")], [tree], (0, 1))
        self.are(False, SMALL, rows, [("v", "dock")], [tree])

    def test_many_trees(self):
        chance = random.Random(16)
        told = {True: 0, False: 0}
        for seed in range(400):
            town = random_town(seed, 6, 8, 60 if seed % 3 else 12)
            chart = chart_of(town, random_shut(seed, town))
            rows = random_rows(seed, town)[:3]
            least = all_least(town, chart, rows)
            plans = [least, least, None]
            whole = [(wagon, chance.choice(can)) for wagon, post, can in rows if can]
            whole = [(wagon, stand) for wagon, stand in whole if (wagon, stand) not in [row[:2] for row in rows]]
            if not uncovered(town, chart, behind(rows, whole)):
                plans += [whole]
            for plan in plans:
                most = len(rows) if plan is None else len(plan)
                tree = other_moves_tree(chance, town, chart, rows, most)
                for thing in [tree, least_plan(town, chart, rows)[1], *spoilt(chance, town, tree, 12)]:
                    due = due_moves_tree(town, chart, rows, plan, thing)
                    if due:
                        self.assertEqual(plan, least)
                    self.same(self.ask(shows_moves, town, chart, rows, plan, thing), due)
                    told[due] += 1
            tree = other_moves_tree(chance, town, chart, rows, len(rows) if least is None else len(least))
            self.same(shows_moves(town, chart, rows, least, tree), True)
        self.assertGreater(min(told.values()), 1000)

    def test_great_trees(self):
        town = held_by([0, 1], [1, 2], [2, 3], [3, 4], [4, 0])
        rows = [(f"w{at}", "q0", ("s0", "s1", "s2", "s3")) for at in range(5)]
        chart = chart_of(town, ())
        plan, tree = least_plan(town, chart, rows)
        self.same((plan, shows_moves(town, chart, rows, plan, tree)), (None, True))
        ring = tuple((f"s{at}", f"s{(at + 1) % 5}", 1, 1) for at in range(5))
        town = (town[2] + ("x",), ring, town[2], 1)
        rows = [(f"w{at}", "x", town[2]) for at in range(5)]
        chart = chart_of(town, ())
        plan, tree = least_plan(town, chart, rows)
        self.same((plan, shows_moves(town, chart, rows, plan, tree)), ([("w0", "s0"), ("w1", "s2")], True))
        self.assertGreater(len(list(nodes(tree))), 50)

    def test_what_is_done_to_lists_behind_the_call(self):
        chart = chart_of(ALONE, ())
        rows, plan = copy.deepcopy(ROWS), [("v", "c")]
        self.same(shows_moves(ALONE, chart, rows, plan, MOVES_TREE), True)
        plan.clear()
        self.same(shows_moves(ALONE, chart, rows, plan, MOVES_TREE), False)
        plan.append(("v", "c"))
        rows.pop()
        self.same(shows_moves(ALONE, chart, rows, plan, MOVES_TREE), False)
        rows.append(ROWS[2])
        self.same(shows_moves(ALONE, chart, rows, plan, MOVES_TREE), True)

    def test_asked_again_and_by_turns(self):
        for _ in range(3):
            self.are(True, ALONE, ROWS, [("v", "c")], [MOVES_TREE])
            self.are(False, ALONE, ROWS[:2], [("v", "c")], [MOVES_TREE])
            self.are(False, ALONE, ROWS, None, [MOVES_TREE])
            self.are(False, LONELY, [], None, [MOVES_TREE])


if __name__ == "__main__":
    import unittest
    unittest.main()
