"""[9], and the interface's first row: the refusals."""

import unittest

from ledclocks import errors
from ledclocks.errors import (ClockError, LackError, Lied, NoEvent, NoHouse, NoLink, NoNumber, NoPaper, NoRow, NoStep,
                              NoText, NoWorld)
from tests.things import odd_things

FIELDS = (
    (NoPaper, ClockError, ("word", "at")),
    (NoWorld, ClockError, ("ring",)),
    (NoEvent, ClockError, ("word", "at")),
    (Lied, ClockError, ("many",)),
    (NoText, ClockError, ("row", "word")),
    (NoRow, ClockError, ("row",)),
    (NoHouse, LackError, ("name",)),
    (NoLink, LackError, ("number",)),
    (NoNumber, LackError, ("number",)),
    (NoStep, LackError, ("number",)),
)


class TestErrors(unittest.TestCase):
    def test_bases_stand_under_those_of_python(self):
        self.assertEqual(ClockError.__bases__, (ValueError,))
        self.assertEqual(LackError.__bases__, (LookupError,))

    def test_each_refusal_stands_straight_under_one_base(self):
        for refusal, base, names in FIELDS:
            self.assertEqual(refusal.__bases__, (base,), refusal)
            self.assertEqual(refusal.__module__, errors.__name__)

    def test_fields_by_place_are_the_very_things(self):
        for refusal, base, names in FIELDS:
            for thing in odd_things():
                given = [[thing] for name in names]
                made = refusal(*given)
                for name, field in zip(names, given):
                    self.assertIs(getattr(made, name), field, refusal)
                made = refusal(*[thing for name in names])
                for name in names:
                    self.assertIs(getattr(made, name), thing, refusal)

    def test_fields_by_name_are_the_very_things(self):
        for refusal, base, names in FIELDS:
            for order in (names, names[::-1]):
                given = {name: [name] for name in order}
                made = refusal(**given)
                for name in names:
                    self.assertIs(getattr(made, name), given[name], refusal)

    def test_fields_by_place_and_by_name(self):
        made = NoPaper("shape", at=(1, 2))
        self.assertEqual((made.word, made.at), ("shape", (1, 2)))
        made = NoText(3, word=4)
        self.assertEqual((made.row, made.word), (3, 4))

    def test_made_of_just_these_fields(self):
        for refusal, base, names in FIELDS:
            with self.assertRaises(TypeError):
                refusal(*([0] * (len(names) + 1)))
            with self.assertRaises(TypeError):
                refusal(*([0] * (len(names) - 1)))
            with self.assertRaises(TypeError):
                refusal(**{name + "x": 0 for name in names})

    def test_raised_and_caught_by_its_base(self):
        for refusal, base, names in FIELDS:
            other = LackError if base is ClockError else ClockError
            thing = ["kept"]
            with self.assertRaises(base) as caught:
                raise refusal(*[thing for name in names])
            self.assertIs(type(caught.exception), refusal)
            self.assertNotIsInstance(caught.exception, other)
            for name in names:
                self.assertIs(getattr(caught.exception, name), thing)

    def test_two_refusals_keep_their_own(self):
        one, other = NoHouse("ann"), NoHouse("bo")
        self.assertEqual((one.name, other.name), ("ann", "bo"))


if __name__ == "__main__":
    unittest.main()
