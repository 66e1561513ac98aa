"""Words: whole numbers, names, numbers as words, and the words of a row."""

import unittest

from lastingly import words
from lastingly.words import is_among, is_name, is_whole, number_of, words_of

NO_TEXTS = (None, True, False, 0, 7, -7, 1.5, b"saw", b"7", ["saw"], ("saw",), ["7"], {"saw": 1}, {"saw"}, object(), str)
NO_NUMBERS = (None, 1.0, 0.0, 1.5, 1j, "", "1", "saw", b"1", [], [1], (), (1,), {}, {1: 1}, {1}, object(), int)


class WholeNumbers(unittest.TestCase):
    def test_whole_numbers(self):
        for number in (0, 1, -1, 40, -40, 10 ** 9, 10 ** 40, -10 ** 40):
            self.assertIs(is_whole(number), True, number)

    def test_true_and_false_are_none(self):
        self.assertIs(is_whole(True), False)
        self.assertIs(is_whole(False), False)

    def test_no_numbers(self):
        for thing in NO_NUMBERS:
            self.assertIs(is_whole(thing), False, thing)


class Among(unittest.TestCase):
    def test_the_ends_are_in(self):
        self.assertIs(is_among(0, 0, 40), True)
        self.assertIs(is_among(40, 0, 40), True)
        self.assertIs(is_among(17, 0, 40), True)
        self.assertIs(is_among(-40, -40, 40), True)
        self.assertIs(is_among(10 ** 9, 0, 10 ** 9), True)

    def test_one_beyond_is_out(self):
        self.assertIs(is_among(-1, 0, 40), False)
        self.assertIs(is_among(41, 0, 40), False)
        self.assertIs(is_among(-41, -40, 40), False)
        self.assertIs(is_among(10 ** 9 + 1, 0, 10 ** 9), False)

    def test_least_and_most_alike(self):
        self.assertIs(is_among(3, 3, 3), True)
        self.assertIs(is_among(2, 3, 3), False)
        self.assertIs(is_among(4, 3, 3), False)

    def test_nothing_is_among_bounds_that_cross(self):
        for number in (2, 3, 4, 5):
            self.assertIs(is_among(number, 4, 3), False)

    def test_true_and_false_are_not_among_numbers(self):
        self.assertIs(is_among(True, 0, 40), False)
        self.assertIs(is_among(False, 0, 40), False)

    def test_no_numbers(self):
        for thing in NO_NUMBERS:
            self.assertIs(is_among(thing, 0, 40), False, thing)

    def test_bounds_that_are_no_numbers(self):
        for thing in NO_NUMBERS + (True, False):
            self.assertIs(is_among(1, thing, 40), False, thing)
            self.assertIs(is_among(1, 0, thing), False, thing)


class Names(unittest.TestCase):
    def test_one_to_eight_small_letters(self):
        for name in ("a", "z", "saw", "hall", "abcdefgh", "stuvwxyz", "ijklmnop", "qrzzzzzz"):
            self.assertIs(is_name(name), True, name)

    def test_none_and_nine_letters(self):
        self.assertIs(is_name(""), False)
        self.assertIs(is_name("abcdefghi"), False)
        self.assertIs(is_name("a" * 20000), False)

    def test_letters_that_are_not_small(self):
        for word in ("A", "Z", "Saw", "sAw", "saW", "SAW"):
            self.assertIs(is_name(word), False, word)

    def test_letters_of_other_alphabets(self):
        for word in ("\u00e9", "s\u00e4w", "\u03b1", "\u0131", "\u00df"):
            self.assertIs(is_name(word), False, word)

    def test_every_other_sign(self):
        signs = [chr(code) for code in range(128) if not "a" <= chr(code) <= "z"]
        for sign in signs:
            for word in (sign, sign + "saw", "s" + sign + "w", "saw" + sign):
                self.assertIs(is_name(word), False, word)

    def test_words_that_mean_something_of_their_own(self):
        for word in ("any", "none", "at", "move", "box", "lend", "mend"):
            self.assertIs(is_name(word), False, word)

    def test_words_that_only_hold_such_a_word(self):
        for word in ("anya", "many", "nones", "a", "t", "att", "moved", "boxes", "lends", "mends", "ny", "on"):
            self.assertIs(is_name(word), True, word)

    def test_words_of_the_sorts_of_rows_are_names(self):
        for word in ("kind", "room", "thing"):
            self.assertIs(is_name(word), True, word)

    def test_no_texts(self):
        for thing in NO_TEXTS:
            self.assertIs(is_name(thing), False, thing)


class Numbers(unittest.TestCase):
    def tells(self, word, number):
        told = number_of(word)
        self.assertEqual(told, number, word)
        self.assertIs(type(told), int)

    def tells_none(self, word):
        self.assertIsNone(number_of(word), word)

    def test_one_to_ten_figures(self):
        for word, number in (("1", 1), ("9", 9), ("10", 10), ("365", 365), ("1000000000", 10 ** 9),
                             ("1234567890", 1234567890), ("9999999999", 9999999999)):
            self.tells(word, number)

    def test_below_nought(self):
        for word, number in (("-1", -1), ("-9", -9), ("-10", -10), ("-40", -40), ("-9999999999", -9999999999)):
            self.tells(word, number)

    def test_nought(self):
        self.tells("0", 0)
        self.tells_none("-0")

    def test_no_figures(self):
        for word in ("", "-", "--"):
            self.tells_none(word)

    def test_eleven_figures(self):
        for word in ("10000000000", "12345678901", "-10000000000", "1" * 20000):
            self.tells_none(word)

    def test_a_nought_ahead(self):
        for word in ("00", "01", "007", "0000000001", "-00", "-01", "-007", "0-1"):
            self.tells_none(word)

    def test_other_signs(self):
        for word in ("+1", "--1", "-+1", "1-", "1-2", "1 ", " 1", "- 1", "1 2", "1\n", "\n1", "1.0", "1.", "1_0",
                     "1e3", "0x1", "1/2", "1,000", "?", "saw", "a1", "1a"):
            self.tells_none(word)

    def test_figures_of_other_scripts(self):
        for word in ("\u0661", "1\u0662", "\u00b2", "1\u00b2", "\u22121"):
            self.tells_none(word)

    def test_every_other_sign(self):
        for sign in [chr(code) for code in range(128) if not "0" <= chr(code) <= "9"]:
            for word in (sign, "1" + sign, "1" + sign + "1"):
                self.tells_none(word)
            if sign != "-":
                self.tells_none(sign + "1")

    def test_no_texts(self):
        for thing in NO_TEXTS:
            self.tells_none(thing)


class Words(unittest.TestCase):
    def test_one_blank_between(self):
        self.assertEqual(words_of("saw"), ["saw"])
        self.assertEqual(words_of("a b"), ["a", "b"])
        self.assertEqual(words_of("at 24 saw move hall"), ["at", "24", "saw", "move", "hall"])
        self.assertEqual(words_of("kind wood 10 : 0 40 : 50 : 1 / 2"),
                         ["kind", "wood", "10", ":", "0", "40", ":", "50", ":", "1", "/", "2"])

    def test_words_of_any_signs(self):
        self.assertEqual(words_of("? +a !~ A/B -"), ["?", "+a", "!~", "A/B", "-"])

    def test_many_words(self):
        self.assertEqual(words_of(" ".join(["a"] * 10000)), ["a"] * 10000)

    def test_two_side_by_side(self):
        for row in ("a  b", "a   b", "a b  c", "a  b c"):
            self.assertIsNone(words_of(row), row)

    def test_a_blank_at_an_end(self):
        for row in (" a", "a ", " a ", " a b", "a b ", "  a", "a  "):
            self.assertIsNone(words_of(row), row)

    def test_nothing(self):
        for row in ("", " ", "  "):
            self.assertIsNone(words_of(row), row)

    def test_no_texts(self):
        for thing in NO_TEXTS:
            self.assertIsNone(words_of(thing), thing)

    def test_each_list_is_the_askers_own(self):
        told = words_of("a b")
        told.append("c")
        told[0] = "d"
        self.assertEqual(words_of("a b"), ["a", "b"])
        self.assertEqual(told, ["d", "b", "c"])


class Files(unittest.TestCase):
    def test_all_are_defined_in_their_file(self):
        for function in (is_whole, is_among, is_name, number_of, words_of):
            self.assertEqual(function.__module__, words.__name__)


if __name__ == "__main__":
    unittest.main()
