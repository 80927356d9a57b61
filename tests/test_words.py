"""Promises 2 and 11 to 15: kinds, rests, numbers, words and fractions."""

import math
import unittest

from holdlane.errors import BadWord
from holdlane.words import is_name, is_value, is_whole, least_terms, number_in, rest, under, words_of

GREATEST = 9999999999
NO_NUMBERS = ["1", "", "a", 1.0, 0.5, float("nan"), None, [], [1], (1,), (), {}, {1: 1}, set(), b"1", object(), int, 1j]
# Arabic-Indic, fullwidth and superscript figures: Python's int or isdigit lets them by.
STRANGE_FIGURES = ["\u0663", "\uff11", "\u00b2", "\u0661\u0662", "1\u0663", "\uff11" * 3]
STRANGE_LETTERS = ["\u00e9", "\u00df", "\u0430", "\uff41", "\u00aa", "\u03b1"]


class Kinds(unittest.TestCase):
    def agrees(self, question, thing, answer):
        with self.subTest(f"{question.__name__} of {thing!r}"):
            self.assertIs(question(thing), answer)

    def test_ints_are_whole_numbers(self):
        for thing in (0, 1, -1, 7, 10 ** 9 - 1, 10 ** 9, -10 ** 9, 10 ** 40, -10 ** 40):
            self.agrees(is_whole, thing, True)

    def test_truths_are_none_of_them(self):
        for thing in (True, False):
            for question in (is_whole, is_value, is_name):
                self.agrees(question, thing, False)

    def test_things_of_other_kinds_are_no_numbers(self):
        for thing in NO_NUMBERS:
            self.agrees(is_whole, thing, False)
            self.agrees(is_value, thing, False)

    def test_values_and_their_edges(self):
        for thing in (0, 1, 2, 500, 10 ** 9 - 2, 10 ** 9 - 1):
            self.agrees(is_value, thing, True)
        for thing in (-1, -2, 10 ** 9, 10 ** 9 + 1, -10 ** 9, 10 ** 40, -10 ** 40):
            self.agrees(is_value, thing, False)

    def test_names(self):
        for thing in ("a", "z", "m", "a0", "a9", "z9z9z9z9", "abcdefgh", "ijklmnop", "qrstuvwx", "yz", "a0123456", "b789"):
            self.agrees(is_name, thing, True)

    def test_every_letter_and_figure_may_stand_in_a_name(self):
        for sign in "abcdefghijklmnopqrstuvwxyz":
            self.agrees(is_name, sign, True)
            self.agrees(is_name, "a" + sign, True)
        for sign in "0123456789":
            self.agrees(is_name, "a" + sign, True)
            self.agrees(is_name, sign, False)
            self.agrees(is_name, sign + "a", False)

    def test_lengths_of_names(self):
        for length in range(0, 12):
            self.agrees(is_name, "a" * length, 1 <= length <= 8)

    def test_no_other_sign_stands_in_a_name(self):
        fit = "abcdefghijklmnopqrstuvwxyz0123456789"
        for code in list(range(0, 300)) + [ord(text[0]) for text in STRANGE_LETTERS + STRANGE_FIGURES]:
            if chr(code) not in fit:
                for text in (chr(code), "a" + chr(code), chr(code) + "a", "a" + chr(code) + "b"):
                    self.agrees(is_name, text, False)

    def test_wrong_names(self):
        for thing in ("", "abcdefghi", "1a", "A", "aB", "Ab", "a\n", "a1\n", "abcdefgh\n", "\na", "a b", " a", "a ", "a_b",
                      "_a", "a-", "lane:", ">", ":", "a\x00"):
            self.agrees(is_name, thing, False)

    def test_things_of_other_kinds_are_no_names(self):
        for thing in (0, 1, None, [], ["a"], ("a",), ("a", "b"), {"a": 1}, {"a"}, b"a", 1.5, object(), str):
            self.agrees(is_name, thing, False)

    def test_what_is_asked_of_stays_as_it_was(self):
        thing = [1, ["a"]]
        for question in (is_whole, is_value, is_name):
            question(thing)
        self.assertEqual(thing, [1, ["a"]])


class Rests(unittest.TestCase):
    def test_those_of_the_document(self):
        self.assertEqual(rest(10 ** 9 + 5), 5)
        self.assertEqual(rest(-1), 10 ** 9 - 1)

    def test_values_are_their_own_rest(self):
        for number in (0, 1, 2, 12345, 10 ** 9 - 2, 10 ** 9 - 1):
            self.assertEqual(rest(number), number)

    def test_around_the_multiples(self):
        for many in (1, -1, 2, -2, 3, -3, 1000, -1000, 10 ** 30, -10 ** 30):
            self.assertEqual(rest(many * 10 ** 9), 0)
            self.assertEqual(rest(many * 10 ** 9 + 1), 1)
            self.assertEqual(rest(many * 10 ** 9 - 1), 10 ** 9 - 1)
            self.assertEqual(rest(many * 10 ** 9 + 123456789), 123456789)

    def test_forty_figures(self):
        self.assertEqual(rest(10 ** 40 - 1), 999999999)
        self.assertEqual(rest(-(10 ** 40 - 1)), 1)
        self.assertEqual(rest(1234567890123456789012345678901234567890), 234567890)
        self.assertEqual(rest(-1234567890123456789012345678901234567890), 10 ** 9 - 234567890)

    def test_it_is_a_value_and_no_truth(self):
        for number in (-1, 0, 1, 10 ** 9 + 1, -10 ** 39):
            self.assertTrue(is_value(rest(number)))


class Numbers(unittest.TestCase):
    def refused(self, word, low, high):
        with self.subTest(f"{word!r} from {low} to {high}"):
            with self.assertRaises(BadWord):
                number_in(word, low, high)

    def told(self, word, low, high, number):
        answer = number_in(word, low, high)
        self.assertEqual(answer, number)
        self.assertTrue(is_whole(answer))

    def test_numbers_are_told(self):
        for number in (0, 1, 9, 10, 19, 100, 101, 987654321, 10 ** 9, 1234567890, 9000000000, GREATEST - 1, GREATEST):
            self.told(str(number), 0, GREATEST, number)

    def test_low_and_high_are_let_by_and_beyond_is_refused(self):
        for low, high in ((0, 0), (0, 1), (1, 1), (5, 12), (1, 1000), (99, 101), (0, 10 ** 9 - 1), (GREATEST, GREATEST)):
            self.told(str(low), low, high, low)
            self.told(str(high), low, high, high)
            if low > 0:
                self.refused(str(low - 1), low, high)
            self.refused(str(high + 1), low, high)
        self.told("7", 5, 12, 7)

    def test_a_zero_ahead(self):
        for word in ("00", "01", "000", "007", "0000000001", "00000000001"):
            self.refused(word, 0, GREATEST)
        self.told("0", 0, 5, 0)

    def test_no_sign_at_all(self):
        self.refused("", 0, GREATEST)

    def test_signs_blanks_and_the_like(self):
        for word in ("+1", "-1", "-0", "+0", " 1", "1 ", " ", "1 2", "1\n", "\n1", "\n", "1\t", "1_0", "_1", "1_", "1.0",
                     "1e3", "0x1", "a", "1a", "a1", "1,000", "1\x00", "/", ":", "1/", "1:"):
            self.refused(word, 0, GREATEST)

    def test_eleven_figures_and_more(self):
        for word in ("10000000000", "99999999999", "1" * 11, "1" * 5000, "0" * 11):
            self.refused(word, 0, GREATEST)

    def test_figures_that_are_not_of_0_to_9(self):
        for word in STRANGE_FIGURES:
            self.refused(word, 0, GREATEST)


class Words(unittest.TestCase):
    def test_single_blanks_part_words(self):
        self.assertEqual(words_of("lane a 2 5 0"), ["lane", "a", "2", "5", "0"])
        self.assertEqual(words_of("take e : b >"), ["take", "e", ":", "b", ">"])

    def test_without_blanks_it_is_one_word(self):
        for row in ("a", "waits", "a\nb", "a\tb", "a\u00a0b\u2003c", "\n", "\n\n"):
            self.assertEqual(words_of(row), [row])

    def test_no_sign_at_all(self):
        self.assertEqual(words_of(""), [""])

    def test_blanks_first_last_and_side_by_side(self):
        self.assertEqual(words_of(" a"), ["", "a"])
        self.assertEqual(words_of("a "), ["a", ""])
        self.assertEqual(words_of("a  b"), ["a", "", "b"])
        self.assertEqual(words_of("a   b"), ["a", "", "", "b"])
        self.assertEqual(words_of(" "), ["", ""])
        self.assertEqual(words_of("   "), ["", "", "", ""])
        self.assertEqual(words_of("  a b  "), ["", "", "a", "b", "", ""])

    def test_line_feeds_part_nothing(self):
        self.assertEqual(words_of("a\nb c\n"), ["a\nb", "c\n"])
        self.assertEqual(words_of("\n \n"), ["\n", "\n"])

    def test_one_more_than_blanks(self):
        for row in ("", " ", "a b", " a  b\nc ", "x" * 50, " " * 50):
            words = words_of(row)
            self.assertEqual(len(words), row.count(" ") + 1)
            self.assertEqual(" ".join(words), row)

    def test_the_list_is_the_askers_own(self):
        words_of("a b").append("c")
        self.assertEqual(words_of("a b"), ["a", "b"])


class Fractions(unittest.TestCase):
    def test_least_terms(self):
        pairs = (((1, 2), (1, 2)), ((2, 4), (1, 2)), ((6, 4), (3, 2)), ((4, 2), (2, 1)), ((7, 7), (1, 1)), ((5, 1), (5, 1)),
                 ((12, 18), (2, 3)), ((17, 13), (17, 13)), ((13, 17), (13, 17)), ((1, 1), (1, 1)), ((30, 42), (5, 7)))
        for pair, answer in pairs:
            with self.subTest(pair):
                told = least_terms(pair[0], pair[1])
                self.assertEqual(told, answer)
                self.assertIsInstance(told, tuple)
                self.assertTrue(is_whole(told[0]) and is_whole(told[1]))

    def test_top_zero(self):
        for bottom in (1, 2, 9, 10 ** 59, 10 ** 60 - 1):
            self.assertEqual(least_terms(0, bottom), (0, 1))

    def test_small_ones_all(self):
        for top in range(0, 30):
            for bottom in range(1, 30):
                told = least_terms(top, bottom)
                self.assertEqual(told[0] * bottom, told[1] * top)
                self.assertEqual(math.gcd(told[0], told[1]), 1)

    def test_large_ones(self):
        great = 10 ** 60 - 1
        self.assertEqual(least_terms(great, great), (1, 1))
        self.assertEqual(least_terms(great, great - 1), (great, great - 1))
        self.assertEqual(least_terms(10 ** 59, 5 * 10 ** 58), (2, 1))
        self.assertEqual(least_terms(3 ** 120, 3 ** 119 * 2), (3, 2))
        self.assertEqual(least_terms(10 ** 59 + 10 ** 29, 10 ** 29), (10 ** 30 + 1, 1))

    def test_under(self):
        for one, other in (((1, 3), (1, 2)), ((0, 1), (1, 10 ** 59)), ((2, 3), (3, 4)), ((99, 100), (1, 1)), ((1, 2), (5, 3)),
                           ((0, 7), (1, 9)), ((2, 6), (2, 4)), ((1, 1), (2, 1)), ((3, 10), (1, 3)), ((5, 9), (4, 7))):
            with self.subTest(f"{one} and {other}"):
                self.assertIs(under(one, other), True)
                self.assertIs(under(other, one), False)

    def test_equal_ones_are_not_under_each_other(self):
        for one, other in (((1, 2), (1, 2)), ((1, 2), (2, 4)), ((0, 1), (0, 5)), ((3, 1), (9, 3)), ((10 ** 59, 10 ** 58), (10, 1))):
            with self.subTest(f"{one} and {other}"):
                self.assertIs(under(one, other), False)
                self.assertIs(under(other, one), False)

    def test_under_large_ones_that_hardly_differ(self):
        great = 10 ** 60 - 1
        self.assertIs(under((great - 2, great - 1), (great - 1, great)), True)
        self.assertIs(under((great - 1, great), (great - 2, great - 1)), False)
        self.assertIs(under((1, great), (1, great - 1)), True)
        self.assertIs(under((great - 1, 1), (great, 1)), True)


if __name__ == "__main__":
    unittest.main()
