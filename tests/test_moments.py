"""[24] states and what comes of them; [25] the work of a moment; [27] what comes where nothing more is told."""

import random

from tests.samples import LONELY, SMALL, Case
from tests.secondstories import BEGUN, FREE, busy_log, busy_town, due_of, due_work, followed
from wagoncalls.moments import begun, comes, due_at, work
from wagoncalls.stories import story_of

ROW = (("a", "b", "c", "d"), (("a", "b", 4, 4), ("b", "c", 4, 4), ("c", "d", 4, 4)), ("a", "b", "d"), 4)
# Two roads of like minutes and a slower one between the same places.
PAIR = (("a", "b"), (("a", "b", 9, 9), ("b", "a", 7, 5), ("a", "b", 5, 7)), ("a", "b"), 9)


class Works(Case):
    def works(self, town, state, moment, tellings, due):
        """The state behind a work that tells just these events (their moments left out)."""
        told = self.ask(work, town, state, moment, tellings)
        self.assertIs(type(told), tuple)
        self.same(told[0], [(moment, *event) for event in due])
        self.same(told, due_work(town, state, moment, tellings))
        self.same(self.ask(work, town, state, moment, [*reversed(tellings), *tellings]), told)
        return told[1]

    def all_works(self, town, *rows):
        state = begun()
        for moment, tellings, due in rows:
            state = self.works(town, state, moment, tellings, due)
        return state


class StateTests(Works):
    def test_begun(self):
        self.same(self.ask(begun), (None, (), (), (), ()))

    def test_nothing_comes(self):
        self.same(self.ask(comes, begun()), None)
        for moment in [0, 5, 10 ** 6]:
            self.same(self.ask(comes, work(SMALL, begun(), moment, [])[1]), None)
            # Its moment is the state's.
            self.same(self.ask(comes, work(LONELY, begun(), moment, [("on", "w", "a")])[1]), None)
            self.same(self.ask(comes, work(LONELY, begun(), moment, [("on", "w", "a"), ("call", "c", "a", 1)])[1]), None)

    def test_one_comes(self):
        tellings = [("on", "w", "a"), ("call", "c", "b", 1)]
        for moment, due in [(0, 5), (7, 12), (10 ** 6 - 5, 10 ** 6), (10 ** 6 - 4, 10 ** 6 + 1), (10 ** 6, 10 ** 6 + 5)]:
            self.same(self.ask(comes, work(PAIR, begun(), moment, tellings)[1]), due)

    def test_the_least_of_several_comes(self):
        town = (("a", "b", "c", "d"), (("a", "b", 9, 9), ("a", "c", 7, 7), ("a", "d", 8, 8)), ("a",), 0)
        tellings = [("on", wagon, "a") for wagon in ["u", "v", "w"]]
        tellings += [("call", "x", "b", 1), ("call", "y", "c", 2), ("call", "z", "d", 3)]
        state = work(town, begun(), 100, tellings)[1]
        self.same([wagon[4] for wagon in state[2]], [109, 107, 108])
        for due in [107, 108, 109, None]:
            self.same(self.ask(comes, state), due)
            if due is not None:
                state = work(town, state, due, [])[1]

    def test_what_is_above_the_last_moment_is_worked_too(self):
        state = work(PAIR, begun(), 10 ** 6, [("on", "w", "a"), ("call", "c", "b", 1)])[1]
        self.same(self.ask(due_at, PAIR, state, "c"), 10 ** 6 + 5)
        self.works(PAIR, state, 10 ** 6 + 5, [], [("there", "w", "c")])


class EventTests(Works):
    def test_nothing_is_told(self):
        for moment in [0, 1, 10 ** 6]:
            state = self.works(ROW, begun(), moment, [], [("bare", ("a", "b", "c", "d"))])
            self.same(state, (moment, (), (), (), ("a", "b", "c", "d")))
            self.works(ROW, state, moment + 1, [], [])

    def test_told_in_their_order_and_each_once(self):
        tellings = [("call", "c", "a", 2), ("on", "w", "a"), ("shut", 2), ("shut", 0), ("open", 1), ("grade", "c", 1), ("off", "v"),
                    ("done", "d"), ("on", "v", "d")]
        due = [("passed", ("open", 1), "twice"), ("told", ("shut", 0)), ("told", ("shut", 2)), ("passed", ("done", "d"), "none"),
               ("passed", ("off", "v"), "none"), ("told", ("on", "v", "d")), ("told", ("on", "w", "a")),
               ("passed", ("grade", "c", 1), "none"), ("told", ("call", "c", "a", 2)), ("sent", "c", "w", None),
               ("bare", ("a", "b", "c")), ("there", "w", "c")]
        state = self.works(ROW, begun(), 5, tellings, due)
        self.same(state, (5, (0, 2), (("v", "d", "d", "d", 5, FREE), ("w", "a", "a", "a", 5, ("at", "c"))),
                          (("c", "a", 2, 5),), ("a", "b", "c")))
        chance = random.Random(1)
        for _ in range(50):
            chance.shuffle(tellings)
            told = self.ask(work, ROW, begun(), 5, tellings + tellings[:chance.randint(0, 9)])
            self.same(told, ([(5, *event) for event in due], state))

    def test_arrives_at_its_call_its_post_or_neither(self):
        self.all_works(
            ROW,
            (0, [("on", "w", "a"), ("call", "c", "c", 1)],
             [("told", ("on", "w", "a")), ("told", ("call", "c", "c", 1)), ("sent", "c", "w", None),
              ("bare", ("a", "b", "c", "d")), ("drives", "w", 0, "b", 4)]),
            (4, [], [("drives", "w", 1, "c", 8)]),
            (8, [], [("there", "w", "c")]),
            (9, [("done", "c")], [("told", ("done", "c")), ("bare", ("c", "d")), ("drives", "w", 1, "b", 13)]),
            (13, [], [("drives", "w", 0, "a", 17)]),
            (17, [], [("stands", "w", "a")]),
            (18, [], []),
        )

    def test_arrives_by_the_names(self):
        town = (("a", "b", "c"), (("a", "b", 4, 4), ("a", "c", 4, 4)), ("a",), 4)
        state = self.all_works(
            town,
            (1, [("on", "w", "a"), ("on", "v", "a"), ("call", "x", "b", 1), ("call", "y", "c", 2)],
             [("told", ("on", "v", "a")), ("told", ("on", "w", "a")), ("told", ("call", "x", "b", 1)), ("told", ("call", "y", "c", 2)),
              ("sent", "x", "v", None), ("sent", "y", "w", None), ("bare", ("a", "b", "c")),
              ("drives", "v", 0, "b", 5), ("drives", "w", 1, "c", 5)]),
        )
        self.works(town, state, 5, [], [("there", "v", "x"), ("there", "w", "y")])
        state = self.works(town, state, 2, [("done", "x")], [("told", ("done", "x")), ("bare", ())])
        self.works(town, state, 5, [], [("there", "w", "y"), ("drives", "v", 0, "a", 9)])

    def test_is_there_ahead_of_what_is_told(self):
        state = work(PAIR, begun(), 0, [("on", "w", "a"), ("call", "c", "b", 1)])[1]
        self.works(PAIR, state, 5, [("done", "c"), ("off", "w")],
                   [("there", "w", "c"), ("told", ("done", "c")), ("told", ("off", "w"))])
        self.works(PAIR, state, 5, [("off", "w")], [("there", "w", "c"), ("passed", ("off", "w"), "busy")])
        self.works(PAIR, state, 4, [("off", "w")], [("told", ("off", "w"))])

    def test_arrives_at_a_place_that_is_its_post_no_more(self):
        # It was sent back while it was under way.
        state = self.all_works(
            ROW,
            (0, [("on", "w", "a"), ("call", "c", "b", 1)],
             [("told", ("on", "w", "a")), ("told", ("call", "c", "b", 1)), ("sent", "c", "w", None), ("bare", ("a", "b", "c", "d")),
              ("drives", "w", 0, "b", 4)]),
            (2, [("done", "c")], [("told", ("done", "c")), ("bare", ("c", "d"))]),
        )
        self.same(state, (2, (), (("w", "a", "a", "b", 4, FREE),), (), ("c", "d")))
        self.works(ROW, state, 4, [], [("drives", "w", 0, "a", 8)])

    def test_there_at_once(self):
        state = work(ROW, begun(), 0, [("on", "w", "a"), ("on", "v", "a")])[1]
        self.same(state[2], (("v", "a", "d", "b", 4, FREE), ("w", "a", "a", "a", 0, FREE)))
        behind = self.works(ROW, state, 1, [("call", "c", "a", 3)],
                            [("told", ("call", "c", "a", 3)), ("sent", "c", "w", None), ("bare", ("a", "b")), ("there", "w", "c")])
        self.same(behind[2][1], ("w", "a", "a", "a", 0, ("at", "c")))
        # One that isn't yet at the place is there later.
        behind = self.works(ROW, state, 2, [("call", "c", "b", 3), ("off", "w")],
                            [("told", ("off", "w")), ("told", ("call", "c", "b", 3)), ("sent", "c", "v", None),
                             ("bare", ("a", "b", "c", "d"))])
        self.works(ROW, behind, 4, [], [("there", "v", "c")])
        # In the moment in which it comes to the place it is there at once.
        self.works(ROW, state, 4, [("call", "c", "b", 3), ("off", "w")],
                   [("told", ("off", "w")), ("told", ("call", "c", "b", 3)), ("sent", "c", "v", None),
                    ("bare", ("a", "b", "c", "d")), ("there", "v", "c")])

    def test_there_at_once_by_the_names(self):
        tellings = [("on", "w", "a"), ("on", "v", "a"), ("call", "x", "a", 3), ("call", "y", "a", 2)]
        state = self.works(LONELY, begun(), 3, tellings, [
            ("told", ("on", "v", "a")), ("told", ("on", "w", "a")), ("told", ("call", "x", "a", 3)), ("told", ("call", "y", "a", 2)),
            ("sent", "y", "v", None), ("sent", "x", "w", None), ("bare", ("a",)), ("there", "v", "y"), ("there", "w", "x")])
        self.same(state[2], (("v", "a", "a", "a", 3, ("at", "y")), ("w", "a", "a", "a", 3, ("at", "x"))))

    def test_sent_over(self):
        state = self.all_works(
            ROW,
            (0, [("on", "w", "b"), ("call", "c", "d", 3)],
             [("told", ("on", "w", "b")), ("told", ("call", "c", "d", 3)), ("sent", "c", "w", None), ("bare", ("a", "b", "c", "d")),
              ("drives", "w", 1, "c", 4)]),
            (1, [("call", "d", "a", 3)], [("told", ("call", "d", "a", 3))]),
            (2, [("call", "e", "a", 2)], [("told", ("call", "e", "a", 2)), ("sent", "e", "w", "c")]),
        )
        self.same(state[2:4], ((("w", "b", "b", "c", 4, ("to", "e")),),
                               (("c", "d", 3, 0), ("d", "a", 3, 1), ("e", "a", 2, 2))))
        self.works(ROW, state, 4, [], [("drives", "w", 1, "b", 8)])
        self.works(ROW, state, 3, [("grade", "c", 1)], [("told", ("grade", "c", 1)), ("sent", "c", "w", "e")])

    def test_cut_off(self):
        state = work(ROW, begun(), 0, [("on", "w", "a"), ("call", "x", "d", 3)])[1]
        behind = self.works(ROW, state, 2, [("shut", 2)], [("told", ("shut", 2)), ("cut", "w", "x"), ("bare", ("c", "d"))])
        self.same(behind, (2, (2,), (("w", "a", "a", "b", 4, FREE),), (("x", "d", 3, 0),), ("c", "d")))
        self.works(ROW, behind, 4, [], [("drives", "w", 0, "a", 8)])
        # And sent in the same work.
        behind = self.works(ROW, state, 2, [("shut", 2), ("call", "y", "c", 4)],
                            [("told", ("shut", 2)), ("told", ("call", "y", "c", 4)), ("cut", "w", "x"), ("sent", "y", "w", None)])
        self.works(ROW, behind, 4, [], [("drives", "w", 1, "c", 8)])
        # The road is opened again: it is sent to the elder one of the two.
        behind = work(ROW, state, 2, [("shut", 2)])[1]
        self.works(ROW, behind, 3, [("open", 2)], [("told", ("open", 2)), ("sent", "x", "w", None), ("bare", ("a", "b", "c", "d"))])

    def test_cut_off_by_the_names(self):
        tellings = [("on", "v", "a"), ("on", "w", "a"), ("call", "x", "c", 3), ("call", "y", "d", 2)]
        state = work(ROW, begun(), 0, tellings)[1]
        self.same([wagon[5] for wagon in state[2]], [("to", "y"), ("to", "x")])
        self.works(ROW, state, 1, [("shut", 1)], [
            ("told", ("shut", 1)), ("cut", "v", "y"), ("cut", "w", "x"), ("bare", ("c", "d"))])

    def test_held(self):
        state = work(ROW, begun(), 5, [("on", "w", "a"), ("on", "v", "a")])[1]
        behind = self.works(ROW, state, 6, [("shut", 1)], [("told", ("shut", 1)), ("held", "v", "b"), ("bare", ("c", "d"))])
        self.same(behind[2], (("v", "a", "b", "b", 9, FREE), ("w", "a", "a", "a", 5, FREE)))
        self.works(ROW, behind, 9, [], [("stands", "v", "b")])
        # Cut off from its call and from its home, too.
        state = work(ROW, begun(), 5, [("on", "w", "a"), ("call", "x", "d", 3)])[1]
        behind = self.works(ROW, state, 6, [("shut", 0), ("shut", 1)], [
            ("told", ("shut", 0)), ("told", ("shut", 1)), ("cut", "w", "x"), ("held", "w", "b"), ("bare", ("a", "c", "d"))])
        self.works(ROW, behind, 9, [], [("stands", "w", "b")])

    def test_held_by_the_names(self):
        tellings = [("on", "w", "a"), ("on", "v", "a"), ("call", "x", "b", 3), ("call", "y", "b", 3)]
        state = work(ROW, begun(), 5, tellings)[1]
        self.works(ROW, state, 6, [("done", "x"), ("done", "y"), ("shut", 0), ("shut", 1)], [
            ("told", ("shut", 0)), ("told", ("shut", 1)), ("told", ("done", "x")), ("told", ("done", "y")),
            ("held", "v", "b"), ("held", "w", "b"), ("bare", ("a", "c", "d"))])

    def test_moved_by_the_least_plan(self):
        state = self.works(ROW, begun(), 5, [("on", "w", "a"), ("on", "v", "a")], [
            ("told", ("on", "v", "a")), ("told", ("on", "w", "a")), ("moved", "v", "d"), ("drives", "v", 0, "b", 9)])
        self.same(state, (5, (), (("v", "a", "d", "b", 9, FREE), ("w", "a", "a", "a", 5, FREE)), (), ()))
        state = self.works(ROW, state, 9, [], [("drives", "v", 1, "c", 13)])
        state = self.works(ROW, state, 13, [], [("drives", "v", 2, "d", 17)])
        state = self.works(ROW, state, 17, [], [("stands", "v", "d")])
        # Both are moved where one isn't enough.
        far_apart = (ROW[0], ROW[1], ("a", "b", "d"), 0)
        town = (("a", "b", "c"), (("a", "b", 4, 4), ("a", "c", 5, 5)), ("a", "b", "c"), 3)
        state = work(town, begun(), 0, [("on", wagon, "a") for wagon in ["u", "v", "w"]])[1]
        self.same([wagon[2] for wagon in state[2]], ["b", "c", "a"])
        self.works(town, begun(), 0, [("on", wagon, "a") for wagon in ["u", "v", "w"]], [
            ("told", ("on", "u", "a")), ("told", ("on", "v", "a")), ("told", ("on", "w", "a")),
            ("moved", "u", "b"), ("moved", "v", "c"), ("drives", "u", 0, "b", 4), ("drives", "v", 1, "c", 5)])
        # The place c is lost, and three stands are too many for two.
        self.works(far_apart, begun(), 0, [("on", "v", "a"), ("on", "w", "a")],
                   [("told", ("on", "v", "a")), ("told", ("on", "w", "a")), ("bare", ("b", "c", "d"))])

    def test_none_is_moved_where_there_is_no_plan(self):
        self.works(ROW, begun(), 5, [("on", "w", "a")], [("told", ("on", "w", "a")), ("bare", ("c", "d"))])
        state = work(ROW, begun(), 5, [("on", "v", "a"), ("on", "w", "a"), ("shut", 1)])[1]
        self.same(state, (5, (1,), (("v", "a", "a", "a", 5, FREE), ("w", "a", "a", "a", 5, FREE)), (), ("c", "d")))
        self.works(ROW, state, 6, [("open", 1)], [("told", ("open", 1)), ("moved", "v", "d"), ("bare", ()), ("drives", "v", 0, "b", 10)])

    def test_one_that_is_under_way_is_moved_from_where_it_will_be(self):
        state = work(ROW, begun(), 0, [("on", "v", "a"), ("on", "w", "d"), ("call", "c", "b", 1)])[1]
        self.same(state[2], (("v", "a", "a", "b", 4, ("to", "c")), ("w", "d", "d", "d", 0, FREE)))
        # The road behind it is shut: of the stands it can only go to b and d.
        state = self.works(ROW, state, 1, [("shut", 0), ("done", "c")],
                           [("told", ("shut", 0)), ("told", ("done", "c")), ("held", "v", "b"), ("bare", ("a",))])
        self.same(state[2][0], ("v", "a", "b", "b", 4, FREE))

    def test_bare_is_told_where_it_is_another_one(self):
        state = self.all_works(
            LONELY,
            (0, [], [("bare", ("a",))]),
            (1, [], []),
            (2, [("on", "w", "a")], [("told", ("on", "w", "a")), ("bare", ())]),
            (3, [("on", "v", "a")], [("told", ("on", "v", "a"))]),
            (4, [("call", "c", "a", 1)], [("told", ("call", "c", "a", 1)), ("sent", "c", "v", None), ("there", "v", "c")]),
            (5, [("off", "w")], [("told", ("off", "w")), ("bare", ("a",))]),
            (6, [("done", "c"), ("off", "v")], [("told", ("done", "c")), ("told", ("off", "v"))]),
        )
        self.same(state, (6, (), (), (), ("a",)))
        # With as many places, but others.
        self.all_works(
            ROW,
            (0, [("on", "w", "a")], [("told", ("on", "w", "a")), ("bare", ("c", "d"))]),
            (1, [("off", "w"), ("on", "v", "d")], [("told", ("off", "w")), ("told", ("on", "v", "d")), ("bare", ("a", "b"))]),
        )

    def test_lost_places_are_bare(self):
        town = (("a", "b"), (), ("a",), 5)
        self.works(town, begun(), 0, [("on", "w", "a")], [("told", ("on", "w", "a")), ("bare", ("b",))])

    def test_drives_by_the_first_road(self):
        on = ("on", "w", "a")
        for shut, road, then in [((), 1, 105), ((1,), 2, 105), ((1, 2), 0, 109), ((0,), 1, 105), ((0, 1), 2, 105)]:
            state = work(PAIR, begun(), 99, [on, *[("shut", number) for number in shut]])[1]
            told = self.ask(work, PAIR, state, 100, [("call", "c", "b", 1)])
            self.same(told, due_work(PAIR, state, 100, [("call", "c", "b", 1)]))
            self.same(told[0][-1], (100, "drives", "w", road, "b", then))
            self.same(told[1][2], (("w", "a", "a", "b", then, ("to", "c")),))
        state = work(PAIR, begun(), 99, [on, *[("shut", number) for number in range(3)]])[1]
        state = self.works(PAIR, state, 100, [("call", "c", "b", 1)], [("told", ("call", "c", "b", 1))])
        # By a road that is opened in this work.
        self.works(PAIR, state, 101, [("open", 2)], [
            ("told", ("open", 2)), ("sent", "c", "w", None), ("bare", ("a", "b")), ("drives", "w", 2, "b", 106)])
        # No more by one that is shut in it.
        state = work(PAIR, begun(), 99, [on])[1]
        self.works(PAIR, state, 100, [("shut", 1), ("call", "c", "b", 1)], [
            ("told", ("shut", 1)), ("told", ("call", "c", "b", 1)), ("sent", "c", "w", None), ("bare", ("a", "b")),
            ("drives", "w", 2, "b", 105)])

    def test_one_under_way_drives_on_only_from_its_place(self):
        state = work(ROW, begun(), 0, [("on", "w", "a"), ("call", "x", "d", 3)])[1]
        # The road on which it is may be shut behind it.
        state = self.works(ROW, state, 3, [("shut", 0)], [("told", ("shut", 0))])
        self.same(state[2], (("w", "a", "a", "b", 4, ("to", "x")),))
        self.works(ROW, state, 4, [], [("drives", "w", 1, "c", 8)])

    def test_the_first_and_the_last_moment(self):
        for moment in [0, 10 ** 6]:
            state = self.works(PAIR, begun(), moment, [("on", "w", "a"), ("call", "c", "b", 5)], [
                ("told", ("on", "w", "a")), ("told", ("call", "c", "b", 5)), ("sent", "c", "w", None), ("bare", ("a", "b")),
                ("drives", "w", 1, "b", moment + 5)])
            self.same(state, (moment, (), (("w", "a", "a", "b", moment + 5, ("to", "c")),), (("c", "b", 5, moment),), ("a", "b")))
        self.works(PAIR, work(PAIR, begun(), 10 ** 6 - 1, [("on", "w", "a")])[1], 10 ** 6, [("off", "w")],
                   [("told", ("off", "w")), ("bare", ("a", "b"))])

    def test_all_events_in_one_work(self):
        roads = (("a", "b", 5, 5), ("a", "c", 5, 5), ("c", "d", 5, 5), ("a", "e", 4, None), ("e", "f", 4, None), ("f", "g", 1, None),
                 ("a", "g", 40, 40), ("a", "k", 5, 5))
        town = (("a", "b", "c", "d", "e", "f", "g", "k"), roads, ("a", "g"), 0)
        state = work(town, begun(), 0, [("on", "y", "a"), ("call", "h", "b", 1)])[1]
        state = self.works(town, state, 5, [("done", "h"), *[("on", wagon, "a") for wagon in ["u", "v", "w", "x"]],
                                            ("call", "i", "k", 1), ("call", "j", "d", 2)], [
            ("there", "y", "h"), ("told", ("done", "h")), *[("told", ("on", wagon, "a")) for wagon in ["u", "v", "w", "x"]],
            ("told", ("call", "i", "k", 1)), ("told", ("call", "j", "d", 2)), ("sent", "i", "u", None), ("sent", "j", "v", None),
            ("moved", "w", "g"), ("bare", ("b", "c", "d", "e", "f", "k")),
            ("drives", "u", 7, "k", 10), ("drives", "v", 1, "c", 10), ("drives", "w", 3, "e", 9), ("drives", "y", 0, "a", 10)])
        state = self.works(town, state, 9, [], [("drives", "w", 4, "f", 13)])
        state = self.works(town, state, 10, [("call", "l", "a", 3), ("shut", 5), ("done", "z"), ("shut", 2)], [
            ("there", "u", "i"), ("stands", "y", "a"),
            ("told", ("shut", 2)), ("told", ("shut", 5)), ("passed", ("done", "z"), "none"), ("told", ("call", "l", "a", 3)),
            ("cut", "v", "j"), ("sent", "l", "x", None), ("held", "w", "f"), ("moved", "v", "g"), ("bare", ("b", "c", "d", "e", "k")),
            ("there", "x", "l"), ("drives", "v", 1, "a", 15)])
        self.same(state, (10, (2, 5), (
            ("u", "a", "a", "k", 10, ("at", "i")), ("v", "a", "g", "a", 15, FREE), ("w", "a", "f", "f", 13, FREE),
            ("x", "a", "a", "a", 5, ("at", "l")), ("y", "a", "a", "a", 10, FREE)),
            (("i", "k", 1, 5), ("j", "d", 2, 5), ("l", "a", 3, 10)), ("b", "c", "d", "e", "k")))

    def test_what_is_told_is_the_askers_own(self):
        state = work(ROW, begun(), 5, [("on", "w", "a"), ("on", "v", "a")])[1]
        first = work(ROW, state, 6, [("shut", 1)])
        first[0].reverse()
        first[0].append(None)
        self.works(ROW, state, 6, [("shut", 1)], [("told", ("shut", 1)), ("held", "v", "b"), ("bare", ("c", "d"))])
        tellings = [("on", "w", "a")]
        told = work(ROW, begun(), 5, tellings)
        tellings.clear()
        self.same(told[0][0], (5, "told", ("on", "w", "a")))


class ManyTests(Works):
    def test_many(self):
        """Works one behind the other, held against the second reading; by turns in two towns."""
        seen = {}
        for seed in range(250):
            town = busy_town(seed)
            chance = random.Random(seed)
            log = busy_log(seed, town, chance.randint(0, 45))
            state, events = begun(), []
            for moment in range(0, 150):
                tellings = [telling for at, telling in log if at == moment]
                if tellings or moment == comes(state):
                    chance.shuffle(tellings)
                    told = self.ask(work, town, state, moment, tellings)
                    self.same(told, due_work(town, state, moment, tellings))
                    work(PAIR, begun(), moment, [("on", "w", "a")])
                    state = told[1]
                    events += told[0]
                    for event in told[0]:
                        seen[event[1]] = seen.get(event[1], 0) + 1
                    self.same(followed(events), state)
        self.assertEqual(set(seen), {"there", "stands", "told", "passed", "cut", "sent", "held", "moved", "bare", "drives"})
        self.assertGreater(min(seen.values()), 5)


class DueTests(Works):
    def test_to_at_and_waiting(self):
        state = work(ROW, begun(), 3, [("on", "w", "a"), ("call", "c", "c", 1), ("call", "d", "d", 2)])[1]
        self.same(self.ask(due_at, ROW, state, "c"), 11)
        self.same(self.ask(due_at, ROW, state, "d"), None)
        state = work(ROW, state, 5, [])[1]
        self.same(self.ask(due_at, ROW, state, "c"), 11)
        state = work(ROW, work(ROW, state, 7, [])[1], 11, [])[1]
        self.same(state[2][0][5], ("at", "c"))
        self.same(self.ask(due_at, ROW, state, "c"), None)
        state = work(ROW, state, 20, [("done", "c")])[1]
        self.same(self.ask(due_at, ROW, state, "d"), 24)

    def test_by_the_roads_that_are_shut(self):
        for shut, due in [([], 105), ([1], 105), ([1, 2], 109), ([0], 105)]:
            state = work(PAIR, begun(), 100, [("on", "w", "a"), ("call", "c", "b", 1), *[("shut", road) for road in shut]])[1]
            self.same(self.ask(due_at, PAIR, state, "c"), due)
        # It is later, once a road is shut; a wagon and a call of one name are two things.
        state = work(ROW, begun(), 0, [("on", "c", "a"), ("call", "c", "c", 1), ("call", "w", "b", 2)])[1]
        self.same(self.ask(due_at, ROW, state, "c"), 8)
        self.same(self.ask(due_at, ROW, state, "w"), None)

    def test_nothing_more_is_told(self):
        """Only these events come, and each call's wagon is there when it is due."""
        many = {"due": 0, "stands": 0, "drives": 0}
        for seed in range(300):
            town = busy_town(seed)
            until = 20 + seed % 70
            state = self.ask(story_of, town, [row for row in busy_log(seed, town, 30) if row[0] <= until], until)[1]
            if state == BEGUN:
                continue
            due = {name: self.ask(due_at, town, state, name) for name, _, _, _ in state[3]}
            self.same(due, {name: due_of(town, state, name) for name in due})
            there = {}
            while comes(state) is not None:
                events, state = work(town, state, comes(state), [])
                for event in events:
                    self.assertIn(event[1], ["there", "stands", "drives"])
                    many[event[1]] = many.get(event[1], 0) + 1
                    if event[1] == "there":
                        self.assertNotIn(event[3], there)
                        there[event[3]] = event[0]
            many["due"] += len(there)
            self.assertEqual(there, {name: moment for name, moment in due.items() if moment is not None})
        self.assertGreater(min(many.values()), 20)


if __name__ == "__main__":
    import unittest
    unittest.main()
