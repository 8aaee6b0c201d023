"""Towns, odd things and small helpers that the tests share."""

import copy
import random
import unittest

SMALL = (("gate", "mill", "dock"), (("gate", "mill", 5, 7), ("mill", "dock", 3, None)), ("gate", "dock"), 10)
LONELY = (("a",), (), ("a",), 0)
TEN_PLACES = tuple(f"p{number}" for number in range(10))
ROW_OF_TEN = (
    TEN_PLACES,
    tuple((TEN_PLACES[at], TEN_PLACES[at + 1], at + 1, 60 - at) for at in range(9)),
    ("p0", "p9"),
    20,
)
FULL = (
    ("z9", "y", "x", "w", "v", "u", "t", "s", "r", "abcdefgh"),
    tuple(("z9", "y", 1 + at, None if at % 3 else 60) for at in range(17)) + (("abcdefgh", "z9", None, 60),),
    ("abcdefgh", "y", "x", "w", "v"),
    120,
)


def nested(kind, depth):
    thing = None
    for _ in range(depth):
        thing = {"a": thing} if kind is dict else kind([thing])
    return thing


def odd_things():
    """Things of every kind that may be handed in where anything may."""
    return [
        None, True, False, 0, 1, -1, 2, 5, 59, 10 ** 6, 10 ** 6 + 1, 10 ** 60 - 1, -(10 ** 60 - 1),
        "", "a", "0", "-", " ", "\n", "a\n", "place a", "reach 0", "9" * 8000, "a" * 8000, "\n" * 8000, " " * 8000,
        [], [0], [[]], ["a"], [None] * 4, (), ((),), (0,), (True,), ("a",), (None, True), ((0,),), ([0],),
        (10 ** 60 - 1,), (-1,), (None,) * 4, ((), (), (), ()), ([], [], [], 0),
        {}, {"a": 1}, {0: "a", 1: "b", 2: "c", 3: "d"}, {None: ()},
        nested(list, 32), nested(tuple, 32), nested(dict, 32),
    ]


def random_town(seed, most_places=10, most_roads=18, most_minutes=60):
    chance = random.Random(seed)
    many = chance.randint(1, most_places)
    places = tuple(chance.sample([f"{letter}{number}" for letter in "abc" for number in range(9)], many))
    roads = []
    for _ in range(chance.randint(0, most_roads) if many > 1 else 0):
        one, other = chance.sample(places, 2)
        there, back = chance.randint(1, most_minutes), chance.randint(1, most_minutes)
        driven = chance.randint(0, 5)
        roads.append((one, other, None if driven == 0 else there, None if driven == 1 else back))
    stands = tuple(chance.sample(places, chance.randint(1, min(5, many))))
    return places, tuple(roads), stands, chance.randint(0, 120)


def random_shut(seed, town):
    chance = random.Random(seed)
    share = chance.choice([0, 1, 2, 4])
    return tuple(number for number in range(len(town[1])) if chance.randint(0, 4) < share)


class Case(unittest.TestCase):
    """A test that looks at kinds, too, and at what was handed in."""

    def same(self, told, due):
        # As they are shown, 1 and True, tuples and lists differ; as Python compares them, not all do.
        self.assertEqual(repr(told), repr(due))

    def ask(self, function, *things):
        before = copy.deepcopy(things)
        try:
            return function(*things)
        finally:
            self.same(things, before)

    def refused(self, refusal, function, *things):
        with self.assertRaises(refusal) as caught:
            self.ask(function, *things)
        self.assertIs(caught.exception.__class__, refusal)
        return caught.exception
