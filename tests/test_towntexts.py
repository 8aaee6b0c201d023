"""[7] a town's text."""

import random
import re

from tests.samples import FULL, LONELY, ROW_OF_TEN, SMALL, TEN_PLACES, Case, odd_things, random_town
from wagoncalls.errors import NoText
from wagoncalls.towns import is_town
from wagoncalls.towntexts import town_by, town_text

SMALL_TEXT = """place gate
place mill
place dock
road gate mill 5 7
road mill dock 3 -
stand gate
stand dock
reach 10"""


def number_of(word):
    return int(word) if re.fullmatch("[0-9]{1,4}", word) else None


def is_whole(rows):
    """Whether the rows are all that is written of a town: put together without looking, then written anew."""
    parts = {"place": [], "road": [], "stand": [], "reach": []}
    for row in rows:
        words = row.split(" ")
        if words[0] not in parts or len(words) != (5 if words[0] == "road" else 2):
            return False
        if words[0] == "road":
            parts["road"].append((words[1], words[2], number_of(words[3]), number_of(words[4])))
        else:
            parts[words[0]].append(number_of(words[1]) if words[0] == "reach" else words[1])
    if len(parts["reach"]) != 1:
        return False
    town = (tuple(parts["place"]), tuple(parts["road"]), tuple(parts["stand"]), parts["reach"][0])
    return is_town(town) and town_text(town) == "\n".join(rows)


def may_go_on(rows):
    """Whether rows can be the first ones of a town's text: tried with what may stand behind them."""
    tails = [[], ["reach 0"]]
    if rows[0].startswith("place "):
        tails.append(["stand " + rows[0][6:], "reach 0"])
    return any(is_whole(rows + tail) for tail in tails)


def row_due(text):
    """The row at which a text is to be refused; None where it is a town's."""
    rows = text.split("\n")
    for at in range(len(rows)):
        if not may_go_on(rows[:at + 1]):
            return at
    return None if is_whole(rows) else len(rows)


class WrittenTests(Case):
    def test_as_told(self):
        self.same(self.ask(town_text, SMALL), SMALL_TEXT)
        self.same(self.ask(town_text, LONELY), "place a\nstand a\nreach 0")
        far = (("b", "a"), (("b", "a", None, 60), ("a", "b", 60, None), ("b", "a", 1, 10)), ("a", "b"), 120)
        rows = ["place b", "place a", "road b a - 60", "road a b 60 -", "road b a 1 10", "stand a", "stand b", "reach 120"]
        self.same(self.ask(town_text, far), "\n".join(rows))

    def test_full(self):
        rows = town_text(FULL).split("\n")
        self.assertEqual(len(rows), 10 + 18 + 5 + 1)
        self.assertEqual(rows[:3], ["place z9", "place y", "place x"])
        self.assertEqual(rows[10:13], ["road z9 y 1 60", "road z9 y 2 -", "road z9 y 3 -"])
        self.assertEqual(rows[27:], ["road abcdefgh z9 - 60", "stand abcdefgh", "stand y", "stand x", "stand w",
                                     "stand v", "reach 120"])

    def test_there_and_back(self):
        for town in [SMALL, LONELY, ROW_OF_TEN, FULL] + [random_town(seed) for seed in range(300)]:
            self.same(self.ask(town_by, self.ask(town_text, town)), town)

    def test_reaches_and_minutes(self):
        for reach in range(121):
            self.same(town_by(f"place a\nstand a\nreach {reach}"), (("a",), (), ("a",), reach))
        for minutes in range(1, 61):
            head, tail = "place a\nplace b\nroad a b ", "\nstand b\nreach 7"
            for there, back in [(minutes, minutes), (minutes, None), (None, minutes)]:
                words = " ".join("-" if part is None else str(part) for part in (there, back))
                self.same(town_by(head + words + tail), (("a", "b"), (("a", "b", there, back),), ("b",), 7))


class RefusedTests(Case):
    def at_row(self, rows, due):
        text = rows if isinstance(rows, str) else "\n".join(rows)
        with self.subTest(text=text[:200]):
            self.same(self.refused(NoText, town_by, text).row, due)

    def test_rows_out_of_order(self):
        self.at_row(["stand a", "place a", "reach 0"], 0)
        self.at_row(["road a b 1 1", "place a", "place b", "stand a", "reach 0"], 0)
        self.at_row(["reach 0", "place a", "stand a"], 0)
        self.at_row(["place a", "stand a", "place b", "reach 0"], 2)
        self.at_row(["place a", "place b", "road a b 1 1", "place c", "stand a", "reach 0"], 3)
        self.at_row(["place a", "place b", "stand a", "road a b 1 1", "reach 0"], 3)
        self.at_row(["place a", "reach 0", "stand a"], 1)
        self.at_row(["place a", "place b", "road a b 1 1", "reach 0", "stand a"], 3)
        self.at_row(["place a", "road a b 1 1", "place b", "stand a", "reach 0"], 1)
        self.at_row(["place a", "stand b", "place b", "reach 0"], 1)

    def test_rows_behind_the_reach(self):
        whole = ["place a", "place b", "stand a", "reach 0"]
        for more in ["reach 0", "stand b", "place c", "road a b 1 1", "", " ", "x"]:
            self.at_row(whole + [more], 4)
            self.at_row(whole + [more, more], 4)
        self.at_row("\n".join(whole) + "\n", 4)
        self.at_row(SMALL_TEXT + "\n", 8)
        self.at_row(SMALL_TEXT + "\n" * 5000, 8)

    def test_what_is_left_out(self):
        self.at_row(["place a"], 1)
        self.at_row(["place a", "place b"], 2)
        self.at_row(["place a", "place b", "road a b 1 1"], 3)
        self.at_row(["place a", "stand a"], 2)
        rows = SMALL_TEXT.split("\n")
        for many in range(1, len(rows)):
            self.at_row(rows[:many], many)

    def test_a_row_too_many(self):
        places = [f"place {name}" for name in TEN_PLACES]
        self.at_row(places + ["place q", "stand p0", "reach 0"], 10)
        self.at_row(places + ["place q", "place r", "stand p0", "reach 0"], 10)
        self.at_row(places, 10)
        roads = ["place a", "place b"] + ["road a b 1 1"] * 18
        self.at_row(roads + ["road a b 1 1", "stand a", "reach 0"], 20)
        self.at_row(roads, 20)
        self.at_row(roads + ["reach 0"], 20)
        stands = places + [f"stand {name}" for name in TEN_PLACES[:5]]
        self.at_row(stands + ["stand p5", "reach 0"], 15)
        self.at_row(stands, 15)

    def test_names(self):
        self.at_row(["place a", "place a", "stand a", "reach 0"], 1)
        self.at_row(["place a", "place b", "place c", "place b", "stand a", "reach 0"], 3)
        self.at_row(["place a", "place b", "stand b", "stand b", "reach 0"], 3)
        self.at_row(["place a", "place b", "stand b", "stand a", "stand b", "reach 0"], 4)
        self.at_row(["place a", "stand b", "reach 0"], 1)
        for name in ["A", "1", "", "abcdefghi", "a-b", "a_b", "a" * 7990, "9" * 7990, "-", "place"[:0]]:
            self.at_row([f"place {name}", f"stand {name}", "reach 0"], 0)
            self.at_row(["place a", f"place {name}", "stand a", "reach 0"], 1)
            self.at_row(["place a", f"stand {name}", "reach 0"], 1)
        self.same(town_by("place place\nplace stand\nplace reach\nplace road\nroad road place 1 -\nstand stand\nreach 1"),
                  (("place", "stand", "reach", "road"), (("road", "place", 1, None),), ("stand",), 1))

    def test_roads(self):
        wrong = [
            "a a 1 1", "b b 1 -", "a c 1 1", "c a 1 1", "c d 1 1", "A b 1 1", "a b - -",
            "a b 0 1", "a b 1 0", "a b 61 1", "a b 1 61", "a b 0 -", "a b - 0", "a b 00 1", "a b 01 1", "a b 1 01",
            "a b 001 1", "a b +1 1", "a b -1 1", "a b 1 -1", "a b -- 1", "a b 1 --", "a b 1. 1", "a b 1 x", "a b x 1",
            "a b 1", "a b", "a", "", "a b 1 1 1", "a b 1 1 -", "a b None 1", "a b 1 None", "a b 1_0 1", "a b 100 1",
            "a b 1 " + "9" * 7900, "a b " + "9" * 7900 + " 1", "a b 1 " + "0" * 7900, "a b " + "0" * 7900 + "1 1",
            "a b " + "9" * 4301 + " 1", " a b 1 1", "a  b 1 1", "a b 1  1", "a b 1 1 ", "a b  1", "a b 1 ", "a,b 1 1",
        ]
        for words in wrong:
            self.at_row(["place a", "place b", f"road {words}", "stand a", "reach 0"], 2)
            self.at_row(["place a", "place b", "road b a 9 -", f"road {words}", "stand a", "reach 0"], 3)

    def test_reaches(self):
        wrong = ["121", "122", "999", "1000", "-1", "-0", "+1", "00", "01", "000", "007", "0120", "1.0", "1_0", "x", "",
                 "-", "None", "1 1", " 1", "1 ", "12a", "9" * 7900, "0" * 7900, "9" * 4301, "1" + "0" * 7900]
        for word in wrong:
            self.at_row(["place a", "stand a", f"reach {word}"], 2)
            self.at_row(["place a", "stand a", f"reach {word}", "reach 1"], 2)

    def test_blanks_and_other_words(self):
        rows = SMALL_TEXT.split("\n")
        for at in range(len(rows)):
            words = rows[at].split(" ")
            others = [" " + rows[at], rows[at] + " ", "  ".join(words), "", " ", rows[at] + " x", words[0], words[0] + " ",
                      " ".join(words[1:]), rows[at].upper(), rows[at].title(), "x" + rows[at], rows[at].replace(" ", ""),
                      rows[at].replace(" ", "-"), words[0] + "s" + rows[at][len(words[0]):], rows[at].replace(" ", "\n")]
            for other in others:
                self.at_row(rows[:at] + [other] + rows[at + 1:], at)
            self.at_row(rows[:at] + [""] + rows[at:], at)

    def test_the_text_cut(self):
        for many in range(len(SMALL_TEXT) - 1):
            cut = SMALL_TEXT[:many]
            self.at_row(cut, row_due(cut))
        self.at_row("place gate\npla", 1)
        self.at_row("place gate\n", 1)
        self.at_row("place gate\nplace", 1)
        self.at_row("place gate\nplace ", 1)
        self.at_row("place gate\nplace m", 2)
        self.at_row("place gate\nstand gat", 1)
        self.at_row("place gate\nstand gate\nreach", 2)
        self.same(town_by(SMALL_TEXT[:-1]), SMALL[:3] + (1,))

    def test_hardly_a_text(self):
        for text in ["", "\n", "\n\n", " ", "9" * 8000, "\n" * 8000, " " * 8000, "-", "a", "place", "reach 0", "town"]:
            self.at_row(text, 0)

    def test_what_is_no_text(self):
        for thing in [None, True, False, 0, 7, [], (), {}, ["place a"], SMALL, list(SMALL), SMALL_TEXT.split("\n")]:
            self.same(self.refused(NoText, town_by, thing).row, 0)
        for thing in odd_things():
            if thing != "place a":
                self.same(self.refused(NoText, town_by, thing).row, 0)

    def test_changed_texts(self):
        chance = random.Random(7)
        refused = 0
        for seed in range(1500):
            town = random_town(seed, 10 if seed % 2 else 4, 18 if seed % 3 else 3)
            text = changed_text(chance, town_text(town))
            due = row_due(text)
            if due is None:
                self.same(town_text(self.ask(town_by, text)), text)
            else:
                self.at_row(text, due)
                refused += 1
        self.assertGreater(refused, 800)


def changed_text(chance, text):
    rows = text.split("\n")
    for _ in range(chance.randint(1, 2)):
        deed = chance.randint(0, 6)
        at, other = chance.randrange(len(rows)), chance.randrange(len(rows))
        if deed == 0:
            rows[at], rows[other] = rows[other], rows[at]
        elif deed == 1 and len(rows) > 1:
            del rows[at]
        elif deed == 2:
            rows.insert(at, rows[other])
        elif deed == 3:
            rows.insert(at, chance.choice(["", "place new", "reach 5", "road a0 a1 1 1", "stand a0"]))
        elif deed == 4:
            words, others = rows[at].split(" "), rows[other].split(" ")
            words[chance.randrange(len(words))] = chance.choice(others)
            rows[at] = " ".join(words)
        elif deed == 5:
            spot = chance.randrange(len(rows[at]) + 1)
            rows[at] = rows[at][:spot] + chance.choice(" -019ab\n") + rows[at][spot + chance.randint(0, 1):]
        else:
            rows = "\n".join(rows)[:chance.randint(0, len(text))].split("\n")
    return "\n".join(rows)
