"""[26] what tellings do, and why they are passed over."""

from tests.samples import FULL, LONELY
from tests.secondstories import FREE, due_work
from tests.test_moments import PAIR, ROW, Works
from wagoncalls.moments import begun, work


class DoingTests(Works):
    def told(self, town, state, moment, *rows):
        """The state behind a work with these tellings, each of which is done (None) or passed over (the reason)."""
        told = self.ask(work, town, state, moment, [telling for telling, _ in rows])
        self.same(told, due_work(town, state, moment, [telling for telling, _ in rows]))
        self.same([event for event in told[0] if event[1] in ("told", "passed")],
                  [(moment, "told", telling) if why is None else (moment, "passed", telling, why) for telling, why in rows])
        return told[1]

    def test_shut_and_open(self):
        state = self.told(ROW, begun(), 0, (("open", 0), "twice"), (("open", 2), "twice"))
        self.same(state[1], ())
        state = self.told(ROW, state, 1, (("shut", 2), None))
        self.same(state[1], (2,))
        state = self.told(ROW, state, 2, (("shut", 0), None), (("shut", 2), "twice"))
        self.same(state[1], (0, 2))
        state = self.told(ROW, state, 3, (("open", 1), "twice"), (("open", 2), None), (("shut", 0), "twice"), (("shut", 1), None))
        self.same(state[1], (0, 1))
        # Opened and shut in one work: a road that is shut is opened first; one that is open is shut then.
        state = self.told(ROW, state, 4, (("open", 0), None), (("open", 2), "twice"), (("shut", 0), None), (("shut", 2), None))
        self.same(state[1], (0, 1, 2))
        state = self.told(ROW, state, 5, (("open", 0), None), (("open", 1), None), (("open", 2), None))
        self.same(state[1], ())

    def test_eighteen_roads(self):
        state = self.told(FULL, begun(), 0, *[(("shut", road), None) for road in range(18)])
        self.same(state[1], tuple(range(18)))
        state = self.told(FULL, state, 1, (("open", 2), None), (("open", 17), None), (("shut", 10), "twice"))
        self.same(state[1], tuple(road for road in range(17) if road != 2))

    def test_on(self):
        state = self.told(ROW, begun(), 7, (("on", "w", "b"), None))
        self.same(state[2], (("w", "b", "b", "b", 7, FREE),))
        state = self.told(ROW, state, 8, (("on", "v", "d"), None), (("on", "w", "b"), "twice"), (("on", "w", "d"), "twice"))
        self.same(state[2], (("v", "d", "d", "d", 8, FREE), ("w", "b", "b", "b", 7, FREE)))

    def test_on_twice_at_two_stands_in_one_work(self):
        state = self.told(ROW, begun(), 0, (("on", "w", "a"), None), (("on", "w", "b"), "twice"))
        self.same(state[2], (("w", "a", "a", "a", 0, FREE),))

    def test_the_sixth_wagon(self):
        names = ["v", "w", "w1", "w10", "w2"]
        state = self.told(LONELY, begun(), 0, *[(("on", name, "a"), None) for name in names], (("on", "x", "a"), "many"))
        self.same([wagon[0] for wagon in state[2]], names)
        # Of two reasons the first one is told.
        state = self.told(LONELY, state, 1, (("on", "a", "a"), "many"), (("on", "w10", "a"), "twice"))
        state = self.told(LONELY, state, 2, (("off", "w1"), None), (("on", "a", "a"), None), (("on", "b", "a"), "many"), (("on", "v", "a"), "twice"))
        self.same([wagon[0] for wagon in state[2]], ["a", "v", "w", "w10", "w2"])

    def test_off(self):
        state = self.told(LONELY, begun(), 0, (("off", "w"), "none"))
        state = self.told(LONELY, state, 1, (("on", "v", "a"), None), (("on", "w", "a"), None), (("call", "c", "a", 1), None))
        self.same(state[2][0][5], ("at", "c"))
        state = self.told(LONELY, state, 2, (("off", "c"), "none"), (("off", "v"), "busy"), (("off", "w"), None))
        self.same(state[2], (("v", "a", "a", "a", 1, ("at", "c")),))
        state = self.told(LONELY, state, 3, (("done", "c"), None), (("off", "v"), None))
        self.same(state[2:4], ((), ()))

    def test_off_of_one_that_was_to_a_call(self):
        state = self.told(ROW, begun(), 0, (("on", "w", "a"), None), (("call", "c", "c", 1), None))
        self.same(state[2][0][5], ("to", "c"))
        behind = self.told(ROW, state, 1, (("off", "w"), None))
        self.same(behind[2:4], ((), (("c", "c", 1, 0),)))
        # The call waits: another wagon is sent to it, in this work, too.
        behind = self.works(ROW, state, 1, [("off", "w"), ("on", "v", "d")], [
            ("told", ("off", "w")), ("told", ("on", "v", "d")), ("sent", "c", "v", None), ("drives", "v", 2, "c", 5)])
        self.same(behind[2], (("v", "d", "d", "c", 5, ("to", "c")),))

    def test_off_and_on_again_in_one_work(self):
        state = self.told(ROW, begun(), 0, (("on", "w", "a"), None), (("call", "c", "c", 1), None))
        behind = self.works(ROW, state, 1, [("off", "w"), ("on", "w", "d")], [
            ("told", ("off", "w")), ("told", ("on", "w", "d")), ("sent", "c", "w", None), ("drives", "w", 2, "c", 5)])
        self.same(behind[2], (("w", "d", "d", "c", 5, ("to", "c")),))

    def test_call(self):
        state = self.told(ROW, begun(), 9, (("call", "c", "c", 4), None))
        self.same(state[3], (("c", "c", 4, 9),))
        state = self.told(ROW, state, 10, (("call", "a", "a", 5), None), (("call", "c", "a", 1), "twice"), (("call", "c", "c", 4), "twice"))
        self.same(state[3], (("a", "a", 5, 10), ("c", "c", 4, 9)))
        state = self.told(ROW, state, 11, (("call", "b", "a", 1), None), (("call", "b", "a", 2), "twice"), (("call", "b", "b", 1), "twice"))
        self.same(state[3], (("a", "a", 5, 10), ("b", "a", 1, 11), ("c", "c", 4, 9)))

    def test_the_eleventh_call(self):
        names = sorted(f"c{number}" for number in range(11))
        rows = [(("call", name, "a", 1 + at % 5), None if at < 10 else "many") for at, name in enumerate(names)]
        state = self.told(LONELY, begun(), 0, *rows)
        self.same([call[0] for call in state[3]], names[:10])
        self.assertEqual(names[2], "c10")
        state = self.told(LONELY, state, 1, (("call", "b", "a", 1), "many"), (("call", "c10", "a", 1), "twice"))
        state = self.told(LONELY, state, 2, (("done", "c10"), None), (("call", "b", "a", 1), None), (("call", "c10", "a", 1), "many"))
        self.same([call[0] for call in state[3]], ["b"] + names[:2] + names[3:10])

    def test_grade(self):
        state = self.told(ROW, begun(), 0, (("grade", "c", 1), "none"), (("call", "c", "c", 3), None))
        state = self.told(ROW, state, 1, (("grade", "b", 3), "none"), (("grade", "c", 3), "twice"))
        self.same(state[3], (("c", "c", 3, 0),))
        state = self.told(ROW, state, 2, (("grade", "c", 2), None))
        self.same(state[3], (("c", "c", 2, 0),))
        # Its grade is looked at as it is by then.
        state = self.told(ROW, state, 3, (("grade", "c", 2), "twice"), (("grade", "c", 5), None))
        state = self.told(ROW, state, 4, (("grade", "c", 1), None), (("grade", "c", 5), None))
        self.same(state[3], (("c", "c", 5, 0),))

    def test_grade_of_a_call_that_comes_or_is_done_in_the_same_work(self):
        self.told(ROW, begun(), 0, (("grade", "c", 1), "none"), (("call", "c", "c", 3), None))
        state = self.told(ROW, begun(), 0, (("call", "c", "c", 3), None))
        self.told(ROW, state, 1, (("done", "c"), None), (("grade", "c", 1), "none"), (("call", "c", "c", 3), None))

    def test_done(self):
        state = self.told(ROW, begun(), 0, (("done", "c"), "none"), (("call", "c", "c", 3), None), (("call", "d", "d", 3), None))
        state = self.told(ROW, state, 1, (("done", "b"), "none"), (("done", "c"), None))
        self.same(state[3], (("d", "d", 3, 0),))
        self.told(ROW, state, 2, (("done", "c"), "none"))

    def test_done_where_a_wagon_was_to_it(self):
        state = work(ROW, begun(), 0, [("on", "v", "a"), ("on", "w", "a")])[1]
        self.same(state[2][0], ("v", "a", "d", "b", 4, FREE))
        state = self.told(ROW, state, 1, (("call", "b", "a", 3), None), (("call", "c", "d", 3), None))
        self.same(state[2], (("v", "a", "d", "b", 4, ("to", "c")), ("w", "a", "a", "a", 0, ("at", "b"))))
        # Its home is its post, its place and its moment stay; the other one stays at its call.
        state = self.told(ROW, state, 2, (("done", "c"), None))
        self.same(state[2], (("v", "a", "a", "b", 4, FREE), ("w", "a", "a", "a", 0, ("at", "b"))))

    def test_done_where_a_wagon_was_at_it(self):
        state = work(ROW, begun(), 0, [("on", "v", "a"), ("call", "c", "b", 3)])[1]
        state = work(ROW, state, 4, [])[1]
        self.same(state[2], (("v", "a", "a", "b", 4, ("at", "c")),))
        behind = self.works(ROW, state, 9, [("done", "c")], [("told", ("done", "c")), ("bare", ("c", "d")), ("drives", "v", 0, "a", 13)])
        self.same(behind[2], (("v", "a", "a", "a", 13, FREE),))
        # And sent in the same work, from where it is.
        behind = self.works(ROW, state, 9, [("done", "c"), ("call", "e", "c", 5)], [
            ("told", ("done", "c")), ("told", ("call", "e", "c", 5)), ("sent", "e", "v", None), ("drives", "v", 1, "c", 13)])
        self.same(behind[2], (("v", "a", "a", "c", 13, ("to", "e")),))

    def test_a_name_ends_and_begins_anew_in_one_work(self):
        state = work(PAIR, begun(), 0, [("on", "w", "a"), ("call", "w", "b", 1)])[1]
        self.same(state[2:4], ((("w", "a", "a", "b", 5, ("to", "w")),), (("w", "b", 1, 0),)))
        behind = self.works(PAIR, state, 1, [("call", "w", "a", 2), ("done", "w"), ("on", "w", "b"), ("off", "w")], [
            ("told", ("done", "w")), ("told", ("off", "w")), ("told", ("on", "w", "b")), ("told", ("call", "w", "a", 2)),
            ("sent", "w", "w", None), ("drives", "w", 1, "a", 8)])
        self.same(behind[2:4], ((("w", "b", "b", "a", 8, ("to", "w")),), (("w", "a", 2, 1),)))
        # The wagon that was to the call of before isn't to the new one but by a sending.
        behind = self.works(PAIR, state, 1, [("call", "w", "b", 2), ("done", "w")], [
            ("told", ("done", "w")), ("told", ("call", "w", "b", 2)), ("sent", "w", "w", None)])
        self.same(behind[2:4], ((("w", "a", "a", "b", 5, ("to", "w")),), (("w", "b", 2, 1),)))

    def test_wagons_and_calls_of_one_name_are_two_things(self):
        state = work(PAIR, begun(), 0, [("on", "w", "a"), ("on", "v", "a"), ("call", "w", "b", 1)])[1]
        self.same([wagon[5] for wagon in state[2]], [("to", "w"), FREE])
        self.told(PAIR, state, 1, (("done", "v"), "none"), (("off", "w"), None), (("grade", "v", 1), "none"))


if __name__ == "__main__":
    import unittest
    unittest.main()
