"""Promises 3 and 16: the refusals and their fields."""

import copy
import unittest

from holdlane import errors

FIELDS = {
    "BadLine": "line",
    "NoKind": "word",
    "BadName": "name",
    "Doubled": "name",
    "NoSuch": "name",
    "BadNumbers": "name",
    "BadLanes": "name",
    "BadRoom": "name",
    "Open": "name",
    "Loose": "name",
    "NotCalm": "name",
    "IsDoor": "name",
    "BadRow": "name",
    "Lacks": "lane",
    "Full": "lane",
    "TooFast": "ring",
}
WITHOUT_FIELD = ["BadWord", "TooMany"]
ALL = sorted(FIELDS) + WITHOUT_FIELD
RING = [("a", "b", 0, "x", "along"), ("b", "a", 0, "x", "against")]


def example(word):
    if word == "BadLine":
        return 7
    if word == "TooFast":
        return list(RING)
    return "some"


class ClassesOfRefusals(unittest.TestCase):
    def test_there_are_eighteen(self):
        self.assertEqual(len(ALL), 18)
        self.assertEqual(len(set(getattr(errors, word) for word in ALL)), 18)

    def test_lane_error_is_a_value_error(self):
        self.assertEqual(errors.LaneError.__bases__, (ValueError,))

    def test_each_is_straight_under_lane_error(self):
        for word in ALL:
            with self.subTest(word):
                self.assertEqual(getattr(errors, word).__bases__, (errors.LaneError,))

    def test_none_is_taken_for_another(self):
        for word in ALL:
            made = getattr(errors, word)(example(word))
            for other in ALL:
                with self.subTest(f"{word} as {other}"):
                    self.assertEqual(isinstance(made, getattr(errors, other)), word == other)

    def test_each_can_be_raised_and_taken_as_lane_error(self):
        for word in ALL:
            with self.subTest(word):
                with self.assertRaises(errors.LaneError) as taken:
                    raise getattr(errors, word)(example(word))
                self.assertEqual(type(taken.exception).__name__, word)


class FieldsOfRefusals(unittest.TestCase):
    def test_a_field_is_the_very_thing(self):
        things = ["abc", "", "a" * 1000, 0, -1, 10 ** 5000, True, None, [1, [2]], {"a": []}, ("a", 1), object()]
        for word in sorted(FIELDS):
            if word in ("TooFast", "BadLine"):
                continue
            for thing in things:
                with self.subTest(word):
                    self.assertIs(getattr(getattr(errors, word)(thing), FIELDS[word]), thing)

    def test_lines(self):
        for line in (0, 1, 59999, 10 ** 9):
            self.assertEqual(errors.BadLine(line).line, line)

    def test_a_field_that_is_a_list_is_not_copied(self):
        thing = [1]
        made = errors.BadName(thing)
        thing.append(2)
        self.assertIs(made.name, thing)

    def test_only_its_own_field_is_there(self):
        for word in ALL:
            made = getattr(errors, word)(example(word))
            own = [FIELDS[word]] if word in FIELDS else []
            with self.subTest(word):
                self.assertEqual(sorted(vars(made)), own)

    def test_a_ring_is_a_list_of_its_own(self):
        ring = list(RING)
        made = errors.TooFast(ring)
        self.assertEqual(made.ring, RING)
        self.assertIsNot(made.ring, ring)
        ring.append(("c", "c", 1, "", "again"))
        self.assertEqual(made.ring, RING)
        made.ring.clear()
        self.assertEqual(len(ring), 3)

    def test_two_errors_of_one_ring_have_nothing_in_common(self):
        ring = list(RING)
        one = errors.TooFast(ring)
        other = errors.TooFast(ring)
        one.ring.pop()
        self.assertEqual(other.ring, RING)
        self.assertEqual(ring, RING)

    def test_the_words_of_too_fast_do_not_hang_on_the_list(self):
        ring = list(RING)
        made = errors.TooFast(ring)
        ahead = str(made)
        ring.clear()
        self.assertEqual(str(made), ahead)

    def test_a_ring_may_be_empty(self):
        self.assertEqual(errors.TooFast([]).ring, [])

    def test_any_text_makes_those_without_a_field(self):
        for word in WITHOUT_FIELD:
            for text in ("", "a", "two\nrows", "x" * 1000):
                with self.subTest(word):
                    self.assertIsInstance(getattr(errors, word)(text), errors.LaneError)

    def test_a_copied_error_keeps_its_field(self):
        for word in sorted(FIELDS):
            made = copy.copy(getattr(errors, word)(example(word)))
            with self.subTest(word):
                self.assertEqual(getattr(made, FIELDS[word]), example(word))


if __name__ == "__main__":
    unittest.main()
