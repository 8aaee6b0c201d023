"""[4] names, moments, grades; [5] a moment's text."""

from tests.samples import Case, odd_things
from wagoncalls.errors import NoText
from wagoncalls.words import is_grade, is_moment, is_name, moment_by, moment_text

LETTERS = "abcdefghijklmnopqrstuvwxyz"
FIGURES = "0123456789"
SIGNS = [chr(code) for code in range(32, 127) if chr(code) != "\x25"] + ["\n"]


class NameTests(Case):
    def test_names(self):
        for name in ["a", "z", "a0", "a9", "gate", "w1", "abcdefgh", "z0123456", "aaaaaaaa"]:
            self.same(self.ask(is_name, name), True)

    def test_every_sign_alone_and_behind_a_letter(self):
        for sign in SIGNS:
            self.same(is_name(sign), sign in LETTERS)
            self.same(is_name("a" + sign), sign in LETTERS + FIGURES)
            self.same(is_name(sign + "a"), sign in LETTERS)
            self.same(is_name("aaa" + sign + "aaa"), sign in LETTERS + FIGURES)
            self.same(is_name("aaaaaaa" + sign), sign in LETTERS + FIGURES)

    def test_lengths(self):
        for length in range(0, 20):
            self.same(is_name("a" * length), 1 <= length <= 8)
        for sign in "a9 \n":
            self.same(is_name(sign * 8000), False)
        self.same(is_name("a" + "9" * 7999), False)

    def test_no_names(self):
        for text in ["", "1", "1a", "A", "aB", "ABC", "a b", " a", "a ", "a\n", "\na", "a-b", "a_b", "-", "a:b", "None"]:
            self.same(self.ask(is_name, text), False)

    def test_things_of_other_kinds(self):
        for thing in [None, True, False, 0, 1, -1, 10 ** 60 - 1, ["a"], ("a",), {"a": "a"}, [], (), {}, {"a"}]:
            self.same(self.ask(is_name, thing), False)
        for thing in odd_things():
            self.same(self.ask(is_name, thing), thing == "a")


class NumberTests(Case):
    def test_moments(self):
        for moment in [0, 1, 5, 59, 60, 187, 999999, 10 ** 6]:
            self.same(self.ask(is_moment, moment), True)
        for moment in [-1, -10 ** 6, 10 ** 6 + 1, 10 ** 7, 10 ** 59, 10 ** 60 - 1, -(10 ** 60 - 1)]:
            self.same(self.ask(is_moment, moment), False)

    def test_grades(self):
        for grade in range(-10, 20):
            self.same(self.ask(is_grade, grade), grade in (1, 2, 3, 4, 5))
        for grade in [10 ** 6, 10 ** 60 - 1, -(10 ** 60 - 1)]:
            self.same(self.ask(is_grade, grade), False)

    def test_truths_and_texts_are_neither(self):
        for thing in [True, False, "0", "1", "5", "0:00", "", None, [1], (1,), {1: 1}, [0], (0,)]:
            self.same(self.ask(is_moment, thing), False)
            self.same(self.ask(is_grade, thing), False)

    def test_things_of_other_kinds(self):
        for thing in odd_things():
            whole = isinstance(thing, int) and thing is not True and thing is not False
            self.same(self.ask(is_moment, thing), whole and 0 <= thing <= 10 ** 6)
            self.same(self.ask(is_grade, thing), whole and 1 <= thing <= 5)


WRITTEN = [
    (0, "0:00"), (5, "0:05"), (9, "0:09"), (10, "0:10"), (59, "0:59"), (60, "1:00"), (61, "1:01"), (187, "3:07"),
    (599, "9:59"), (600, "10:00"), (1439, "23:59"), (1440, "24:00"), (6000, "100:00"), (10 ** 6, "16666:40"),
]


class MomentTextTests(Case):
    def test_written(self):
        for moment, text in WRITTEN:
            self.same(self.ask(moment_text, moment), text)

    def test_read(self):
        for moment, text in WRITTEN:
            self.same(self.ask(moment_by, text), moment)

    def test_there_and_back(self):
        for moment in [*range(0, 4000), *range(4000, 10 ** 6, 997), *range(10 ** 6 - 200, 10 ** 6 + 1)]:
            self.same(moment_by(moment_text(moment)), moment)

    def test_no_moment_of_a_text(self):
        wrong = [
            "00:00", "00:05", "03:07", "0003:07", "01:00", "016666:40",
            "3:7", "3:007", "3:", "0:0", "0:000", "0:5", "3:070", ":07", ":", ":00", "::",
            "3:60", "3:61", "3:99", "0:60", "0:75", "16666:41", "16666:59", "16667:00", "99999:00", "100000:00",
            "+3:07", "-3:07", "3:+7", "3:-7", "-0:05", "--3:07", "3:0+", "3_0:07", "1_6:07",
            " 3:07", "3:07 ", "3 :07", "3: 07", "3: 7", "3:7 ", "3:07\n", "\n3:07", "3:0 7", "3:0\n",
            "3:07:00", "3:07:", ":3:07", "3::07", "0:3:07", "187", "307", "3.07", "3;07", "", " ", "\n", "a", "a:bc",
            "3:a7", "3:0a", "a:07", "None", "-", "1e3:00", "0x3:07", "3:0x",
            "9" * 8000, "9" * 7997 + ":07", "0:" + "0" * 7998, "0" * 7997 + ":07", "3:" + "9" * 7998, ":" * 8000,
            "9" * 4300 + ":00", "9" * 4301 + ":00", " " * 8000, "\n" * 8000,
        ]
        for text in wrong:
            self.same(self.refused(NoText, moment_by, text).row, 0)

    def test_each_sign_at_each_place(self):
        for at in range(4):
            for sign in SIGNS:
                text = "3:07"[:at] + sign + "3:07"[at + 1:]
                if at == 1:
                    right = sign == ":"
                else:
                    right = sign in FIGURES and (at != 2 or sign < "6")
                if right:
                    self.same(moment_text(moment_by(text)), text)
                else:
                    self.same(self.refused(NoText, moment_by, text).row, 0)

    def test_what_is_no_text(self):
        for thing in [None, True, False, 0, 187, 10 ** 60 - 1, ["3:07"], ("3:07",), {"3:07": 187}, [], (), {}]:
            self.same(self.refused(NoText, moment_by, thing).row, 0)

    def test_odd_things(self):
        for thing in odd_things():
            self.same(self.refused(NoText, moment_by, thing).row, 0)
