"""[22] a telling as a text; [23] a log as a text, logs put together."""

import itertools
import random

from tests.samples import FULL, LONELY, SMALL, Case, odd_things, random_town
from wagoncalls.errors import NoText
from wagoncalls.logs import log_by, log_text, telling_by, telling_text, together
from wagoncalls.tellings import in_order, is_telling

WRITTEN = [
    (("open", 1), "open 1"), (("open", 0), "open 0"), (("shut", 0), "shut 0"), (("done", "c7"), "done c7"),
    (("off", "w1"), "off w1"), (("on", "w1", "gate"), "on w1 gate"), (("grade", "c7", 5), "grade c7 5"),
    (("call", "c7", "mill", 2), "call c7 mill 2"), (("call", "abcdefgh", "gate", 1), "call abcdefgh gate 1"),
    (("on", "on", "dock"), "on on dock"), (("done", "none"), "done none"),
]
LOG = [
    (5, ("call", "c7", "mill", 2)), (0, ("on", "w1", "gate")), (5, ("open", 1)), (60, ("shut", 0)), (5, ("open", 0)),
    (59, ("done", "c7")), (10 ** 6, ("off", "w1")),
]
LOG_TEXT = "0:00 on w1 gate\n0:05 open 0\n0:05 open 1\n0:05 call c7 mill 2\n0:59 done c7\n1:00 shut 0\n16666:40 off w1"
SORTED = [LOG[1], LOG[4], LOG[2], LOG[0], LOG[5], LOG[3], LOG[6]]


def due_sorted(log):
    """[23]: moment by moment, and of one moment as tellings go."""
    told = []
    for moment in sorted({row[0] for row in log}):
        told += [(moment, telling) for telling in in_order([row[1] for row in log if row[0] == moment])]
    return told


def random_log(seed, town, many):
    chance = random.Random(seed)
    log = []
    while len(log) < many:
        name = chance.choice(["a", "a1", "b", "w1", "w10"])
        telling = chance.choice([
            ("done", name), ("off", name), ("on", name, chance.choice(town[2])), ("grade", name, chance.randint(1, 5)),
            ("call", name, chance.choice(town[0]), chance.randint(1, 5)), ("open", chance.randint(0, 17)), ("shut", chance.randint(0, 17)),
        ])
        if is_telling(town, telling):
            log.append((chance.choice([0, 5, 59, 60, 61, 100, 999, 6000, 10 ** 6, chance.randint(0, 10 ** 6)]), telling))
    return log


class TellingTextTests(Case):
    def no_telling(self, town, texts):
        for text in texts:
            with self.subTest(text=text):
                self.same(self.refused(NoText, telling_by, town, text).row, 0)

    def test_there_and_back(self):
        for telling, text in WRITTEN:
            self.same(self.ask(telling_text, telling), text)
            self.same(self.ask(telling_by, SMALL, text), telling)
        for number in range(18):
            for word in ["open", "shut"]:
                self.same(self.ask(telling_text, (word, number)), f"{word} {number}")
                self.same(self.ask(telling_by, FULL, f"{word} {number}"), (word, number))

    def test_noughts_and_signs_ahead(self):
        for word in ["open", "shut"]:
            self.no_telling(FULL, [word + " " + number for number in [
                "00", "01", "001", "010", "+1", "-1", "-0", "+0", "1.0", "1e0", "0x1", "1_0", "--1", "one", "", "-", "None", "True",
                "1 ", " 1", "1\n", "18", "19", "100", "9" * 7000]])
        self.no_telling(SMALL, ["open 2", "shut 2", "open 10"])
        self.no_telling(LONELY, ["open 0", "shut 0", "open -1", "open 1", "open ", "open"])
        for head in ["grade c7 ", "call c7 mill "]:
            self.no_telling(SMALL, [head + number for number in [
                "0", "6", "00", "01", "05", "+1", "-1", "", "a", "1.", "1 1", "1 ", " 1", "1\n", "10", "11", "12", "-", "9" * 7000]])
            for grade in range(1, 6):
                self.same(telling_by(SMALL, head + str(grade))[-1], grade)

    def test_blanks(self):
        for _, text in WRITTEN:
            self.no_telling(SMALL, [" " + text, text + " ", text.replace(" ", "  "), text.replace(" ", "  ", 1), text + "\n", "\n" + text,
                                    text.replace(" ", "\n"), text.replace(" ", ""), text.replace(" ", ","), text.replace(" ", "_")])
            for at, sign in enumerate(text):
                if sign == " ":
                    self.no_telling(SMALL, [text[:at] + " " + text[at:], text[:at] + text[at + 1:]])

    def test_large_letters(self):
        for _, text in WRITTEN:
            self.no_telling(SMALL, [text.upper(), text[0].upper() + text[1:]])
            for at, sign in enumerate(text):
                if sign != sign.upper():
                    self.no_telling(SMALL, [text[:at] + sign.upper() + text[at + 1:]])

    def test_words_left_out_and_more(self):
        for _, text in WRITTEN:
            words = text.split(" ")
            self.no_telling(SMALL, [" ".join(words[:many]) for many in range(len(words))])
            for at in range(len(words) + 1):
                for word in ["a", "1", "", "gate", "-", "on"]:
                    self.no_telling(SMALL, [" ".join(words[:at] + [word] + words[at:])])
            for at in range(len(words)):
                self.no_telling(SMALL, [" ".join(words[:at] + words[at + 1:])])

    def test_words_of_other_tellings(self):
        for one, other in itertools.product(WRITTEN, WRITTEN):
            words = [other[1].split(" ")[0]] + one[1].split(" ")[1:]
            parts = (other[0][0],) + one[0][1:]
            if is_telling(SMALL, parts):
                self.same(self.ask(telling_by, SMALL, " ".join(words)), parts)
            else:
                self.no_telling(SMALL, [" ".join(words)])
        self.no_telling(SMALL, ["place gate", "road 1", "stand gate", "reach 10", "opens 1", "ope 1", "", " ", "\n", "open", "closed 1"])

    def test_names_stands_places(self):
        self.no_telling(SMALL, [
            "on w1 mill", "on w1 x", "on w1 w1", "on gate w1", "on abcdefghi gate", "on 1w gate", "on w-1 gate", "call c7 x 2", "call mill c7 2",
            "call c7 2 mill", "call 7 mill 2", "call c_7 mill 2", "done 7", "done abcdefghi", "done c-7", "done -", "done c7 c8", "off 1", "off W1",
            "off w1,w2", "grade 1 c7", "grade c7 c7", "grade 7 1", "done c7\n", "off w1\noff w2",
        ])
        self.same(telling_by(LONELY, "call c7 a 2"), ("call", "c7", "a", 2))
        self.no_telling(LONELY, ["call c7 mill 2", "on w1 gate"])

    def test_great_texts(self):
        self.no_telling(FULL, [
            "9" * 8000, "open " + "9" * 7995, "open " + "0" * 7995, "open " + "0" * 7994 + "1", "grade c " + "1" * 7992, "call c y " + "9" * 7991,
            "done " + "a" * 7995, "off a" + "9" * 7994, " " * 8000, "\n" * 8000, "open 1" + " " * 7994, "open" + " " * 7995 + "1", "on " * 2666,
            "open 4" + "0" * 4300, "open " + "1" * 4300, "open " + "1" * 4301,
        ])

    def test_no_text_at_all(self):
        for thing in [None, True, False, 0, 1, [], ["open 1"], ("open", 1), {}, {"open": 1}, ("open 1",), ["open", "1"]]:
            self.no_telling(SMALL, [thing])
        self.no_telling(SMALL, odd_things())
        self.no_telling(LONELY, odd_things())

    def test_many(self):
        for seed in range(100):
            town = random_town(seed)
            for _, telling in random_log(seed, town, 30):
                text = self.ask(telling_text, telling)
                self.same(text, " ".join(str(part) for part in telling))
                self.same(self.ask(telling_by, town, text), telling)


class LogTextTests(Case):
    def no_log(self, town, text, row):
        with self.subTest(text=text):
            self.same(self.refused(NoText, log_by, town, text).row, row)

    def test_there_and_back(self):
        self.same(self.ask(log_text, LOG), LOG_TEXT)
        self.same(self.ask(log_by, SMALL, LOG_TEXT), SORTED)

    def test_of_none(self):
        self.same(self.ask(log_text, []), "")
        self.same(self.ask(log_by, SMALL, ""), [])
        first = log_by(SMALL, "")
        first.append(LOG[0])
        self.same(log_by(SMALL, ""), [])

    def test_of_one(self):
        for moment, text in [(0, "0:00"), (59, "0:59"), (60, "1:00"), (187, "3:07"), (10 ** 6, "16666:40")]:
            self.same(self.ask(log_text, [(moment, ("open", 1))]), text + " open 1")
            self.same(self.ask(log_by, SMALL, text + " open 1"), [(moment, ("open", 1))])

    def test_rows_in_any_order_and_twice(self):
        rows = LOG_TEXT.split("\n")
        chance = random.Random(23)
        for _ in range(50):
            chance.shuffle(rows)
            self.same(self.ask(log_by, SMALL, "\n".join(rows)), SORTED)
            more = rows + chance.choices(rows, k=4)
            chance.shuffle(more)
            self.same(self.ask(log_by, SMALL, "\n".join(more)), SORTED)
            log = LOG + chance.choices(LOG, k=5)
            chance.shuffle(log)
            self.same(self.ask(log_text, log), LOG_TEXT)
        self.same(self.ask(log_text, [(5, ("open", 1))] * 200), "0:05 open 1")
        self.same(self.ask(log_by, SMALL, "\n".join(["0:05 open 1"] * 200)), [(5, ("open", 1))])

    def test_moments_go_by_their_numbers(self):
        log = [(600, ("open", 0)), (60, ("shut", 1)), (5, ("open", 1)), (6000, ("open", 0)), (0, ("open", 1)), (120, ("open", 1))]
        text = "0:00 open 1\n0:05 open 1\n1:00 shut 1\n2:00 open 1\n10:00 open 0\n100:00 open 0"
        self.same(self.ask(log_text, log), text)
        self.same(self.ask(log_by, SMALL, text), sorted(log))

    def test_of_one_moment_as_tellings_go(self):
        log = [(7, ("call", "a", "gate", 1)), (7, ("grade", "a", 1)), (7, ("on", "a", "gate")), (7, ("off", "a")), (7, ("done", "a")),
               (7, ("shut", 1)), (7, ("shut", 0)), (7, ("open", 1))]
        text = "0:07 open 1\n0:07 shut 0\n0:07 shut 1\n0:07 done a\n0:07 off a\n0:07 on a gate\n0:07 grade a 1\n0:07 call a gate 1"
        self.same(self.ask(log_text, log), text)
        self.same(self.ask(log_by, SMALL, text), log[::-1])

    def test_the_first_row_that_is_none_such(self):
        rows = LOG_TEXT.split("\n")
        wrong = [
            "", " ", "0:05", "0:05 ", "open 1", " 0:05 open 1", "0:05  open 1", "0:05 open 1 ", "0:05 open  1", "00:05 open 1", "0:5 open 1",
            "0:60 open 1", "16666:41 open 1", "5 open 1", "0:05 open 2", "0:05 open 01", "0:05 opens 1", "0:05 Open 1", "0:05 on w1 mill",
            "0:05 call c7 mill 6", "0:05 done", "0:05 done c7 c8", "0:05:open 1", "0:05,open 1", "-0:05 open 1", "0:05 0:05 open 1", "log", "-",
            "9" * 4000, "9" * 4000 + ":00 open 1", "0:05 open " + "9" * 4000,
        ]
        for at in range(len(rows) + 1):
            for row in wrong:
                # The row put in; alone it may be the text without signs, which is a log.
                self.no_log(SMALL, "\n".join(rows[:at] + [row] + rows[at:]), at)
                self.no_log(SMALL, "\n".join(rows[:at] + [row] + rows[at:] + ["", "x"]), at)
        for row in wrong[1:]:
            self.no_log(SMALL, row, 0)

    def test_line_feeds(self):
        self.no_log(SMALL, LOG_TEXT + "\n", 7)
        self.no_log(SMALL, LOG_TEXT + "\n\n", 7)
        self.no_log(SMALL, "\n" + LOG_TEXT, 0)
        self.no_log(SMALL, "\n", 0)
        self.no_log(SMALL, "\n" * 8000, 0)
        self.no_log(SMALL, "0:05 open 1\n", 1)
        self.no_log(SMALL, "0:05 open 1\n\n0:05 open 1", 1)
        self.no_log(SMALL, LOG_TEXT.replace("\n", " "), 0)
        self.no_log(SMALL, LOG_TEXT.replace("\n", ";"), 0)

    def test_of_another_town(self):
        self.no_log(LONELY, LOG_TEXT, 0)
        self.no_log(LONELY, "0:00 done a\n0:05 open 0", 1)
        self.same(log_by(LONELY, "0:05 call c7 a 2"), [(5, ("call", "c7", "a", 2))])
        for _ in range(2):
            self.same(log_by(FULL, "0:05 open 17"), [(5, ("open", 17))])
            self.no_log(SMALL, "0:05 open 17", 0)

    def test_no_text_at_all(self):
        for thing in [None, True, False, 0, 7, [], ["0:05 open 1"], ("0:05 open 1",), {}, LOG, tuple(LOG), {"0:05 open 1": 1}]:
            self.no_log(SMALL, thing, 0)
        for thing in odd_things():
            if thing != "":
                self.no_log(SMALL, thing, 0)

    def test_logs_of_two_hundred_and_more(self):
        for seed in range(40):
            town = random_town(seed)
            log = random_log(seed, town, 200)
            text = self.ask(log_text, log)
            due = due_sorted(log)
            self.same(self.ask(log_by, town, text), due)
            self.same(log_text(due), text)
            self.assertEqual(len(text.split("\n")), len(due))
        rows = [f"{hour}:{minute:02d} off w" for hour in range(12) for minute in range(60)]
        self.assertLess(len("\n".join(rows[:500])), 8000)
        log = log_by(SMALL, "\n".join(rows[:500]))
        self.same(log, [(moment, ("off", "w")) for moment in range(500)])
        self.same(log_text(log), "\n".join(rows[:500]))

    def test_each_list_is_a_new_one(self):
        first = log_by(SMALL, LOG_TEXT)
        first.clear()
        self.same(log_by(SMALL, LOG_TEXT), SORTED)
        log = list(LOG)
        log_text(log)
        self.same(log, LOG)


class TogetherTests(Case):
    def test_with_itself_and_with_none(self):
        self.same(self.ask(together, LOG, LOG), SORTED)
        self.same(self.ask(together, LOG, []), SORTED)
        self.same(self.ask(together, [], LOG), SORTED)
        self.same(self.ask(together, [], []), [])
        self.same(self.ask(together, LOG[:4] * 2, LOG[2:] * 2), SORTED)

    def test_a_list_with_itself(self):
        log = list(LOG)
        told = together(log, log)
        self.same(told, SORTED)
        told.pop()
        self.same(log, LOG)
        self.same(together(log, []), SORTED)
        self.assertIsNot(together(SORTED, []), SORTED)

    def test_in_both_orders(self):
        for seed in range(60):
            town = random_town(seed)
            one, other, third = random_log(seed, town, 60), random_log(seed + 1000, town, seed), random_log(seed + 2000, town, 20)
            other += one[:seed // 2]
            due = due_sorted(one + other)
            self.same(self.ask(together, one, other), due)
            self.same(self.ask(together, other, one), due)
            self.same(together(due, due), due)
            self.same(together(together(one, other), third), together(one, together(third, other)))
            self.same(log_by(town, log_text(together(one, other))), due)

    def test_what_differs_by_a_little_stays(self):
        one = [(5, ("open", 1)), (5, ("call", "a", "gate", 1))]
        other = [(6, ("open", 1)), (5, ("open", 0)), (5, ("call", "a", "gate", 2)), (5, ("shut", 1))]
        due = [(5, ("open", 0)), (5, ("open", 1)), (5, ("shut", 1)), (5, ("call", "a", "gate", 1)), (5, ("call", "a", "gate", 2)), (6, ("open", 1))]
        self.same(self.ask(together, one, other), due)
        self.same(self.ask(together, other, one), due)


if __name__ == "__main__":
    import unittest
    unittest.main()
