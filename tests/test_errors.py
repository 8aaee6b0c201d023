"""[2] and the interface: the refusals."""

from tests.samples import Case, odd_things
from wagoncalls import errors
from wagoncalls.errors import NoCall, NoPaper, NoText, WagonError

OF_TEXT = ["NoTown", "NoMoment", "NoTelling", "Late", "TooMany", "NoLog", "NoRow", "NoDeed"]
ALL = ["NoText", "NoPaper", "NoCall"] + OF_TEXT


def made(name):
    refusal = getattr(errors, name)
    if name == "NoText":
        return refusal(3)
    if name == "NoPaper":
        return refusal("shape", 3)
    return refusal("a text")


class RefusalTests(Case):
    def test_there_are_eleven(self):
        self.assertEqual(len(set(ALL)), 11)
        under = {name for name, thing in vars(errors).items() if isinstance(thing, type)}
        self.assertLessEqual(set(ALL) | {"WagonError"}, under)

    def test_each_is_a_wagon_error_and_a_value_error(self):
        self.assertTrue(issubclass(WagonError, ValueError))
        for name in ALL:
            self.assertIsInstance(made(name), WagonError)
            self.assertIsInstance(made(name), ValueError)

    def test_none_stands_under_another(self):
        for name in ALL:
            self.assertEqual(getattr(errors, name).__bases__, (WagonError,))
            for other in ALL:
                self.assertEqual(isinstance(made(name), getattr(errors, other)), name == other)

    def test_each_is_caught_as_wagon_error(self):
        for name in ALL:
            with self.assertRaises(WagonError) as caught:
                raise made(name)
            self.assertIs(caught.exception.__class__, getattr(errors, name))

    def test_wagon_error_is_raised_and_caught(self):
        with self.assertRaises(ValueError):
            raise WagonError("a text")

    def test_those_of_a_text_tell_it(self):
        for name in OF_TEXT:
            self.assertIn("just this", str(getattr(errors, name)("just this")))

    def test_row(self):
        for row in [0, 1, 8000, 10 ** 60 - 1, 10 ** 6000]:
            refusal = NoText(row)
            self.assertIs(refusal.row, row)
            self.assertIsInstance(str(refusal), str)

    def test_word_and_at(self):
        for word in ["shape", "goal", "steep", "slack", "moves", "", "9" * 8000]:
            for at in [0, 1, 17, 10 ** 60 - 1, 10 ** 6000]:
                refusal = NoPaper(word, at)
                self.assertIs(refusal.word, word)
                self.assertIs(refusal.at, at)
                self.assertIsInstance(str(refusal), str)

    def test_name_is_just_what_was_handed_in(self):
        for name in odd_things():
            refusal = self.ask(NoCall, name)
            self.assertIs(refusal.name, name)
            self.assertIsInstance(str(refusal), str)
