"""[11] the checker of charts."""

import random

from tests.samples import FULL, LONELY, ROW_OF_TEN, SMALL, Case, nested, odd_things, random_shut, random_town
from wagoncalls.chartchecks import lets_chart
from wagoncalls.errors import NoPaper
from wagoncalls.ways import chart_of

# From gate to mill 5, back 7; from mill to dock 3, never back.
CHART = ((0, 7, None), (5, 0, None), (8, 3, 0))


def is_number(thing):
    return thing is None or (type(thing) is int and thing >= 0)


def due_paper(town, shut, thing):
    """What is due of anything, word by word as the document tells it; True of the chart."""
    places, roads = town[0], town[1]
    many = len(places)
    if type(thing) is not tuple or len(thing) != many:
        return ("shape", 0)
    for row in thing:
        if type(row) is not tuple or len(row) != many or not all(is_number(number) for number in row):
            return ("shape", 0)
    for goal in range(many):
        if thing[goal][goal] != 0:
            return ("goal", goal)
    led = {number: [] for number in range(len(roads)) if number not in shut}
    for number in led:
        one, other, there, back = roads[number]
        one, other = places.index(one), places.index(other)
        led[number] = [drive for drive in [(one, other, there), (other, one, back)] if drive[2] is not None]
    for number in sorted(led):
        for begin, end, minutes in led[number]:
            for row in thing:
                if row[end] is not None and (row[begin] is None or row[begin] > row[end] + minutes):
                    return ("steep", number)
    for place in range(many):
        for goal in range(many):
            ends = [(end, minutes) for number in led for begin, end, minutes in led[number] if begin == place]
            number = thing[goal][place]
            if goal != place and number is not None and number not in [
                    thing[goal][end] + minutes for end, minutes in ends if thing[goal][end] is not None]:
                return ("slack", place)
    return True


def with_number(chart, goal, place, number):
    rows = [list(row) for row in chart]
    rows[goal][place] = number
    return tuple(tuple(row) for row in rows)


class ChartCheckTests(Case):
    def no_paper(self, word, at, town, shut, thing):
        with self.subTest(thing=thing):
            refusal = self.refused(NoPaper, lets_chart, town, shut, thing)
            self.same((refusal.word, refusal.at), (word, at))

    def test_the_chart(self):
        self.same(self.ask(lets_chart, SMALL, (), CHART), True)
        self.same(self.ask(lets_chart, LONELY, (), ((0,),)), True)
        for town in [SMALL, LONELY, ROW_OF_TEN, FULL]:
            for shut in [(), tuple(range(len(town[1])))]:
                self.same(self.ask(lets_chart, town, shut, chart_of(town, shut)), True)

    def test_shape(self):
        wrong = [
            [], (), None, True, False, 0, 1, "", "chart", {}, (CHART,), list(CHART), [list(row) for row in CHART],
            CHART[:2], CHART + (CHART[0],), tuple(list(row) for row in CHART), (list(CHART[0]),) + CHART[1:],
            ((0, 7), (5, 0), (8, 3)), ((0, 7, None, None),) + CHART[1:], CHART[:2] + ((8, 3),), (None,) * 3, (0, 0, 0),
            ("abc", "abc", "abc"), ({}, {}, {}), {0: CHART[0], 1: CHART[1], 2: CHART[2]}, dict(enumerate(CHART)),
        ]
        for thing in wrong + odd_things():
            self.no_paper("shape", 0, SMALL, (), thing)
        for number in [-1, -(10 ** 60 - 1), True, False, "7", "", [], (), {}, [7], (7,), nested(tuple, 30), nested(dict, 30)]:
            for goal in range(3):
                for place in range(3):
                    self.no_paper("shape", 0, SMALL, (), with_number(CHART, goal, place, number))
        self.no_paper("shape", 0, LONELY, (), ((False,),))
        self.no_paper("shape", 0, LONELY, (), ((-1,),))
        self.no_paper("shape", 0, LONELY, (), ((0, 0),))
        self.no_paper("shape", 0, LONELY, (), ((),))
        self.no_paper("shape", 0, LONELY, (), ())
        for thing in odd_things():
            self.no_paper("shape", 0, LONELY, (), thing if thing != ((0,),) else None)

    def test_goal(self):
        for number in [1, 5, None, 10 ** 60 - 1]:
            self.no_paper("goal", 0, LONELY, (), ((number,),))
            for goal in range(3):
                self.no_paper("goal", goal, SMALL, (), with_number(CHART, goal, goal, number))
        self.no_paper("goal", 1, SMALL, (), ((0, 7, None), (5, 1, None), (8, 3, 2)))
        self.no_paper("goal", 0, SMALL, (), ((None,) * 3,) * 3)

    def test_steep(self):
        self.no_paper("steep", 0, SMALL, (), with_number(CHART, 0, 1, 8))
        self.no_paper("steep", 0, SMALL, (), with_number(CHART, 0, 1, None))
        self.no_paper("steep", 0, SMALL, (), with_number(CHART, 1, 0, 6))
        self.no_paper("steep", 0, SMALL, (), with_number(CHART, 2, 0, 9))
        self.no_paper("steep", 1, SMALL, (), ((0, 7, None), (5, 0, None), (9, 4, 0)))
        self.no_paper("steep", 1, SMALL, (), ((0, 7, None), (5, 0, None), (None, None, 0)))
        self.no_paper("steep", 1, SMALL, (), ((0, 7, None), (5, 0, None), (10 ** 60 - 1, 10 ** 60 - 2, 0)))
        self.no_paper("steep", 0, SMALL, (), ((0, None, None), (None, 0, None), (None, None, 0)))
        self.no_paper("steep", 0, SMALL, (1,), ((0, None, None), (None, 0, None), (None, None, 0)))
        self.no_paper("steep", 1, SMALL, (0,), ((0, None, None), (None, 0, None), (None, None, 0)))

    def test_slack(self):
        self.no_paper("slack", 1, SMALL, (), with_number(CHART, 0, 1, 6))
        self.no_paper("slack", 0, SMALL, (), with_number(CHART, 1, 0, 4))
        self.no_paper("slack", 2, SMALL, (), with_number(CHART, 0, 2, 5))
        self.no_paper("slack", 2, SMALL, (), with_number(CHART, 0, 2, 4))
        self.no_paper("steep", 1, SMALL, (), with_number(CHART, 0, 2, 3))
        self.no_paper("slack", 2, SMALL, (), with_number(CHART, 1, 2, 10 ** 60 - 1))
        self.no_paper("slack", 0, SMALL, (0,), ((0, None, None), (5, 0, None), (8, 3, 0)))
        self.no_paper("slack", 0, SMALL, (0, 1), ((0, 1, None), (5, 0, None), (8, 3, 0)))
        self.no_paper("slack", 1, SMALL, (0, 1), ((0, 7, 3), (None, 0, None), (None, None, 0)))
        bare = (("a", "b"), (), ("a",), 0)
        self.same(lets_chart(bare, (), ((0, None), (None, 0))), True)
        self.no_paper("slack", 1, bare, (), ((0, 0), (None, 0)))
        self.no_paper("slack", 0, bare, (), ((0, 0), (5, 0)))

    def test_which_goes_first(self):
        self.no_paper("shape", 0, SMALL, (), ((1, 9, None), (4, 1, True), (8, 3, 0)))
        self.no_paper("goal", 2, SMALL, (), ((0, 9, 4), (4, 0, None), (8, 3, 1)))
        self.no_paper("steep", 0, SMALL, (), ((0, 9, 4), (4, 0, None), (8, 4, 0)))
        self.no_paper("steep", 1, SMALL, (), ((0, 6, 4), (4, 0, None), (9, 4, 0)))
        self.no_paper("slack", 0, SMALL, (), ((0, 6, 4), (4, 0, None), (8, 3, 0)))

    def test_of_another_town_or_shut(self):
        self.no_paper("shape", 0, SMALL, (), chart_of(ROW_OF_TEN, ()))
        self.no_paper("slack", 0, SMALL, (0,), CHART)
        self.no_paper("slack", 1, SMALL, (1,), CHART)
        self.no_paper("steep", 1, SMALL, (), chart_of(SMALL, (1,)))

    def test_many_charts(self):
        chance = random.Random(11)
        told = {}
        for seed in range(1500):
            town = random_town(seed, 5, 7, 4)
            shut = random_shut(seed, town)
            chart = chart_of(town, random_shut(seed + chance.randint(0, 1), town))
            for _ in range(chance.randint(0, 3)):
                goal, place = chance.randrange(len(chart)), chance.randrange(len(chart))
                number = chart[goal][place]
                other = chance.choice([None, 0, 1, number if number is None else number + 1, (number or 1) - 1, 30])
                chart = with_number(chart, goal, place, other)
            due = due_paper(town, shut, chart)
            self.assertEqual(due is True, chart == chart_of(town, shut))
            if due is True:
                self.same(self.ask(lets_chart, town, shut, chart), True)
            else:
                self.no_paper(due[0], due[1], town, shut, chart)
            told[due if due is True else due[0]] = told.get(due if due is True else due[0], 0) + 1
        for word in [True, "goal", "steep", "slack"]:
            self.assertGreater(told[word], 50)

    def test_asked_again_and_by_turns(self):
        for _ in range(3):
            self.same(lets_chart(SMALL, (), CHART), True)
            self.no_paper("slack", 0, SMALL, (0,), CHART)
            self.same(lets_chart(LONELY, (), ((0,),)), True)
