"""[21] what a telling of a town is, and how tellings go."""

import itertools
import random

from tests.samples import FULL, LONELY, ROW_OF_TEN, SMALL, Case, nested, odd_things, random_town
from wagoncalls.tellings import in_order, is_telling

WORDS = ["open", "shut", "done", "off", "on", "grade", "call"]
# One of each word, as they go.
ONES = [("open", 1), ("shut", 0), ("done", "c7"), ("off", "w1"), ("on", "w1", "gate"), ("grade", "c7", 1), ("call", "c7", "mill", 2)]
NO_NAMES = ["", "abcdefghi", "A", "aB", "1", "1a", "a b", "a ", " a", "a\n", "-", "a-", None, True, False, 0, 1, ["a"], ("a",),
            {}, {"a": 1}, [], ()]
NO_NUMBERS = [None, True, False, "0", "1", "", [1], (1,), {}, {1: 1}, [], (), 10 ** 60 - 1, -1, -(10 ** 60 - 1), nested(tuple, 30)]


def due_telling(town, thing):
    """[21], word by word."""
    def name(part):
        return type(part) is str and part.isascii() and part.isalnum() and part == part.lower() and len(part) <= 8 and part[0].isalpha()

    def number(part, least, most):
        return type(part) is int and least <= part <= most

    if type(thing) is not tuple:
        return False
    if len(thing) == 2 and thing[0] in ("open", "shut"):
        return number(thing[1], 0, len(town[1]) - 1)
    if len(thing) == 2 and thing[0] in ("done", "off"):
        return name(thing[1])
    if len(thing) == 3 and thing[0] == "on":
        return name(thing[1]) and thing[2] in list(town[2])
    if len(thing) == 3 and thing[0] == "grade":
        return name(thing[1]) and number(thing[2], 1, 5)
    if len(thing) == 4 and thing[0] == "call":
        return name(thing[1]) and thing[2] in list(town[0]) and number(thing[3], 1, 5)
    return False


class TellingTests(Case):
    def are(self, due, town, things):
        for thing in things:
            with self.subTest(thing=thing):
                self.same(self.ask(is_telling, town, thing), due)
                self.same(due_telling(town, thing), due)

    def test_each_word(self):
        self.are(True, SMALL, ONES)
        self.are(True, SMALL, [("open", 0), ("shut", 1), ("on", "w1", "dock"), ("call", "a", "dock", 5), ("call", "a", "gate", 1)])
        self.are(True, LONELY, [("on", "w", "a"), ("call", "c", "a", 3), ("done", "c"), ("off", "w"), ("grade", "c", 4)])

    def test_roads(self):
        for word in ["open", "shut"]:
            self.are(True, SMALL, [(word, 0), (word, 1)])
            self.are(False, SMALL, [(word, number) for number in [-1, -2, 2, 3, 17, 18]])
            self.are(True, FULL, [(word, number) for number in range(18)])
            self.are(False, FULL, [(word, 18), (word, -1)])
            self.are(False, LONELY, [(word, number) for number in [0, -1, 1]])
            self.are(False, FULL, [(word, thing) for thing in NO_NUMBERS])
            self.are(False, SMALL, [(word, "gate"), (word, "a"), (word, "gate", "mill")])

    def test_names(self):
        for name in ["a", "z", "c7", "w1", "abcdefgh", "a1234567", "none", "on", "gate"]:
            self.are(True, SMALL, [("done", name), ("off", name), ("on", name, "gate"), ("grade", name, 5), ("call", name, "mill", 1)])
        for name in NO_NAMES:
            self.are(False, SMALL, [("done", name), ("off", name), ("on", name, "gate"), ("grade", name, 5), ("call", name, "mill", 1)])

    def test_stands_and_places(self):
        self.are(False, SMALL, [("on", "w", "mill"), ("on", "w", "x"), ("on", "w", ""), ("on", "w", "Gate"), ("on", "w", "gate ")])
        self.are(False, SMALL, [("call", "c", "x", 1), ("call", "c", "", 1), ("call", "c", "mil", 1), ("call", "c", "mill ", 1)])
        for place in ROW_OF_TEN[0]:
            self.are(place in ROW_OF_TEN[2], ROW_OF_TEN, [("on", "w", place)])
            self.are(True, ROW_OF_TEN, [("call", "c", place, 2)])
        for thing in odd_things():
            self.are(False, SMALL, [("on", "w", thing), ("call", "c", thing, 1)])

    def test_grades(self):
        for grade in range(-3, 12):
            self.are(1 <= grade <= 5, SMALL, [("grade", "c", grade), ("call", "c", "mill", grade)])
        for thing in NO_NUMBERS:
            self.are(False, SMALL, [("grade", "c", thing), ("call", "c", "mill", thing)])

    def test_truths_are_no_numbers(self):
        self.are(False, SMALL, [("open", True), ("open", False), ("shut", True), ("shut", False), ("grade", "c", True),
                                ("grade", "c", False), ("call", "c", "mill", True), ("call", "c", "mill", False)])

    def test_words(self):
        for telling in ONES:
            for word in ["", "Open", "open ", " open", "opens", "x", "stand", "OPEN", None, True, 0, ("open",), ["open"], {}, ()]:
                self.are(False, SMALL, [(word, *telling[1:])])
            for other in WORDS:
                known = due_telling(SMALL, (other, *telling[1:]))
                self.are(known, SMALL, [(other, *telling[1:])])
        self.are(True, SMALL, [("off", "c7"), ("done", "w1"), ("open", 0), ("shut", 1)])

    def test_parts_left_out_or_more(self):
        for telling in ONES:
            self.are(False, SMALL, [telling[:many] for many in range(len(telling))])
            for part in [None, "a", 1, "gate", (), True, 0]:
                self.are(False, SMALL, [telling + (part,), (part,) + telling])
            self.are(False, SMALL, [telling * 2, telling[::-1], (telling,), telling[:1] + telling])

    def test_lists_in_the_place_of_tuples(self):
        for telling in ONES:
            self.are(False, SMALL, [list(telling), [telling], dict(enumerate(telling)), {telling: True}, " ".join(map(str, telling))])
            for at in range(len(telling)):
                for kind in [list, tuple]:
                    self.are(False, SMALL, [telling[:at] + (kind([telling[at]]),) + telling[at + 1:]])

    def test_of_anything(self):
        for town in [SMALL, LONELY, FULL]:
            self.are(False, town, odd_things())
        for thing in odd_things():
            for telling in ONES:
                for at in range(len(telling)):
                    changed = telling[:at] + (thing,) + telling[at + 1:]
                    self.are(due_telling(SMALL, changed), SMALL, [changed])

    def test_of_one_town_and_of_another(self):
        for _ in range(2):
            self.are(True, SMALL, [("on", "w", "gate"), ("shut", 1), ("call", "c", "mill", 1)])
            self.are(False, LONELY, [("on", "w", "gate"), ("shut", 1), ("call", "c", "mill", 1)])

    def test_many(self):
        chance = random.Random(21)
        told = {True: 0, False: 0}
        for seed in range(150):
            town = random_town(seed)
            parts = [*town[0][:3], *town[2], "c1", "abcdefghi", 0, 1, 5, 6, len(town[1]), len(town[1]) - 1, True, None, -1]
            for _ in range(60):
                thing = (chance.choice(WORDS), *chance.choices(parts, k=chance.choice([1, 1, 2, 3])))
                due = due_telling(town, thing)
                self.same(self.ask(is_telling, town, thing), due)
                told[due] += 1
        self.assertGreater(min(told.values()), 500)


class OrderTests(Case):
    def test_all_seven_words(self):
        for shift in range(7):
            self.same(self.ask(in_order, ONES[shift:] + ONES[:shift]), ONES)
        self.same(self.ask(in_order, ONES[::-1]), ONES)
        self.same(self.ask(in_order, []), [])

    def test_each_two_words(self):
        for one, other in itertools.combinations(ONES, 2):
            self.same(self.ask(in_order, [one, other]), [one, other])
            self.same(self.ask(in_order, [other, one]), [one, other])

    def test_within_one_word(self):
        for due in [
            [("open", 0), ("open", 2), ("open", 10)], [("shut", 0), ("shut", 9), ("shut", 17)],
            [("done", "a"), ("done", "a1"), ("done", "a10"), ("done", "a2"), ("done", "b")], [("off", "w1"), ("off", "w10"), ("off", "w2")],
            [("on", "a", "y"), ("on", "a", "z"), ("on", "b", "x")], [("grade", "a", 2), ("grade", "a", 5), ("grade", "b", 1)],
            [("call", "a", "x", 5), ("call", "a", "y", 1), ("call", "a", "y", 2), ("call", "b", "x", 1)],
        ]:
            for turned in itertools.permutations(due):
                self.same(self.ask(in_order, list(turned)), due)

    def test_the_same_one_twice(self):
        for telling in ONES:
            self.same(self.ask(in_order, [telling] * 5), [telling])
        self.same(self.ask(in_order, ONES + ONES[::-1] + ONES[2:4]), ONES)
        self.same(self.ask(in_order, [("open", 2), ("open", 1), ("open", 2), ("open", 1)]), [("open", 1), ("open", 2)])

    def test_each_list_is_a_new_one(self):
        tellings = list(ONES)
        told = in_order(tellings)
        self.assertIsNot(told, tellings)
        told.clear()
        self.same(tellings, ONES)
        self.same(in_order(tellings), ONES)
        first = in_order([])
        first.append(("open", 0))
        self.same(in_order([]), [])

    def test_many(self):
        chance = random.Random(22)
        parts = {"open": [(number,) for number in range(12)], "shut": [(number,) for number in range(12)]}
        names = ["a", "a1", "b", "w1", "w10", "w2"]
        parts["done"] = parts["off"] = [(name,) for name in names]
        parts["on"] = [(name, stand) for name in names for stand in ["gate", "dock"]]
        parts["grade"] = [(name, grade) for name in names for grade in range(1, 6)]
        parts["call"] = [(name, place, grade) for name in names for place in ["x", "mill"] for grade in [1, 3]]
        for _ in range(200):
            tellings = []
            for _ in range(chance.randint(0, 30)):
                word = chance.choice(WORDS)
                tellings.append((word, *chance.choice(parts[word])))
            due = [telling for word in WORDS for telling in sorted({row for row in tellings if row[0] == word})]
            self.same(self.ask(in_order, tellings), due)


if __name__ == "__main__":
    import unittest
    unittest.main()
