"""Integers, words and rows: promises [2], [4] and the row errors of [6]."""

import unittest

from helpers import check_error, no_integers, no_lists, no_words

from whoselines.kinds import are_distinct_words, check_row, is_integer, is_word


class Kinds(unittest.TestCase):
    def test_integers(self):
        for value in (0, 1, -1, 5, 10 ** 59, -10 ** 59):
            self.assertIs(is_integer(value), True)

    def test_no_integers(self):
        for value in no_integers():
            self.assertIs(is_integer(value), False, repr(value))

    def test_words(self):
        for value in ("a", "z", "note", "abcdefgh", "ijklmnop", "qrstuvwx", "yz", "zzzzzzzz"):
            self.assertIs(is_word(value), True)

    def test_no_words(self):
        for value in no_words():
            self.assertIs(is_word(value), False, repr(value)[:40])

    def test_no_word_has_a_sign_beside_the_letters(self):
        for code in list(range(32, 127)) + [9, 10]:
            letter = chr(code)
            expected = "a" <= letter <= "z"
            for word in (letter, "b" + letter, letter + "b", "b" + letter + "b"):
                self.assertIs(is_word(word), expected, word)

    def test_distinct_words(self):
        for value in ((), ("a",), ("b", "a"), ("a", "aa", "aaa")):
            self.assertIs(are_distinct_words(value), True)
        for value in (("a", "a"), ("a", "b", "a"), ["a"], "a", "ab", None, {"a": 1}, 0, (("a",),), (["a"],), ({},)):
            self.assertIs(are_distinct_words(value), False, repr(value))

    def test_rows(self):
        for row in ([], ["a"], ["a", "a"], ["note"] * 300):
            self.assertIsNone(check_row(row))

    def test_no_rows(self):
        for value in no_lists():
            check_error(self, "NoRow", check_row, value, field=0)
        for value in no_words():
            check_error(self, "NoRow", check_row, [value], field=0)
            check_error(self, "NoRow", check_row, ["a", "b", value, "c"], field=2)
            check_error(self, "NoRow", check_row, ["a", value, value], field=1)
            check_error(self, "NoRow", check_row, ["a"] * 299 + [value], field=299)


if __name__ == "__main__":
    unittest.main()
