"""[2], [3], [10]: NUMBERS and WORDS."""

import unittest

from ledclocks.numbers import is_number, is_word
from tests.things import odd_things


class TestNumbers(unittest.TestCase):
    def test_numbers(self):
        for thing in (0, 1, -1, 2, 9999, 10 ** 60 - 1, -(10 ** 60) + 1):
            self.assertIs(is_number(thing), True, thing)

    def test_truths_are_no_numbers(self):
        self.assertIs(is_number(True), False)
        self.assertIs(is_number(False), False)

    def test_other_things_are_no_numbers(self):
        for thing in (None, "", "1", "-1", [], [1], (), (1,), (1, 1), [[1]]):
            self.assertIs(is_number(thing), False, thing)

    def test_by_name(self):
        self.assertIs(is_number(thing=3), True)
        self.assertIs(is_word(thing="bo"), True)


class TestWords(unittest.TestCase):
    def test_by_their_length(self):
        for many in range(12):
            self.assertIs(is_word("a" * many), 1 <= many <= 8, many)
            self.assertIs(is_word("azbyczdx"[:many]), 1 <= many, many)
        self.assertIs(is_word("abcdefgh"), True)
        self.assertIs(is_word("abcdefghi"), False)
        self.assertIs(is_word("a" * 4000), False)

    def test_each_sign_alone_and_within(self):
        for code in range(32, 127):
            sign = chr(code)
            small = "a" <= sign <= "z"
            for text in (sign, "a" + sign, sign + "z", "an" + sign + "bo", "abcdefg" + sign):
                self.assertIs(is_word(text), small, text)

    def test_other_things_are_no_words(self):
        for thing in (None, True, False, 0, 1, [], ["a"], ["a", "b"], (), ("a",), ("a", "b"), [["a"]]):
            self.assertIs(is_word(thing), False, thing)

    def test_odd_things(self):
        words = [thing for thing in odd_things() if is_word(thing)]
        self.assertEqual(words, ["a", "ann", "abcdefgh"])
        numbers = [thing for thing in odd_things() if is_number(thing)]
        self.assertEqual(numbers, [0, 1, -1, 2, 10 ** 59, -(10 ** 59)])
        self.assertEqual([kind for kind in numbers if isinstance(kind, bool)], [])


if __name__ == "__main__":
    unittest.main()
