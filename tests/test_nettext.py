"""Promises 29 and 30: nets as text."""

import re
import unittest

from drawn import drawn_nets
from holdlane.errors import (BadLanes, BadLine, BadName, BadNumbers, BadRoom, Doubled, LaneError, Loose, NoKind, Open,
                             TooMany)
from holdlane.nets import Net
from holdlane.nettext import read_net, show_net
from holdlane.words import is_whole

TOP = 10 ** 9 - 1
ROWS = ["lane a 2 5 0", "lane b 1", "give d : > a", "turn t 3 1 : a > b", "take e : b >"]
TEXT = "\n".join(ROWS)
NAME, NUMBER = "[a-z][a-z0-9]{0,7}", "(0|[1-9][0-9]{0,8})"
LANE_FORM = re.compile(f"lane {NAME}( {NUMBER})+")
PART_FORM = re.compile(f"{NAME} {NAME}( {NUMBER})* :( {NAME})* >( {NAME})*")


def with_row(place, row):
    return "\n".join(ROWS[:place] + [row] + ROWS[place + 1:])


def first_bad_row(text):
    """The number of the first row without its form, by patterns, or None."""
    parts = False
    for line, row in enumerate(text.split("\n")):
        if row.split(" ")[0] == "lane":
            if parts or not LANE_FORM.fullmatch(row):
                return line
        else:
            parts = True
            if not PART_FORM.fullmatch(row):
                return line
    return None


class Showing(unittest.TestCase):
    def test_the_rows_of_the_document(self):
        net = Net([("a", 2, [5, 0]), ("b", 1, [])],
                  [("give", "d", [], [], ["a"]), ("turn", "t", [3, 1], ["a"], ["b"]), ("take", "e", [], ["b"], [])])
        self.assertEqual(show_net(net), TEXT)

    def test_every_kind(self):
        rows = ["lane l%d 1" % place for place in range(19)]
        rows += ["give g : > l0", "pass p : l0 > l1", "copy k : l1 > l2 l3", "turn u 0 999999999 : l2 > l4",
                 "heap h 7 : l3 > l5", "order o : l4 l5 > l6 l7", "add s : l6 l7 > l8", "split w : l8 l9 > l10 l11",
                 "less x : l10 l11 > l12", "choose c : l12 l13 l14 > l15", "copy m : l15 > l9 l16",
                 "copy n : l16 > l13 l17", "copy q : l17 > l14 l18", "take t : l18 >"]
        text = "\n".join(rows)
        net = read_net(text)
        self.assertEqual(show_net(net), text)
        self.assertEqual(sorted(set(part[0] for part in net.told()[1])),
                         ["add", "choose", "copy", "give", "heap", "less", "order", "pass", "split", "take", "turn"])

    def test_great_numbers(self):
        net = Net([("a", 199, [0, TOP] * 99)], [("turn", "t", [TOP, 0], ["a"], ["a"])])
        self.assertEqual(show_net(net), "lane a 199" + " 0 999999999" * 99 + "\nturn t 999999999 0 : a > a")

    def test_a_net_is_not_changed_by_its_showing(self):
        net = read_net(TEXT)
        told = net.told()
        self.assertEqual(show_net(net), show_net(net))
        self.assertEqual(net.told(), told)


class Reading(unittest.TestCase):
    def test_the_rows_of_the_document(self):
        net = read_net(TEXT)
        self.assertIs(type(net), Net)
        self.assertEqual(net.told(), ([("a", 2, (5, 0)), ("b", 1, ())],
                                      [("give", "d", (), (), ("a",)), ("turn", "t", (3, 1), ("a",), ("b",)),
                                       ("take", "e", (), ("b",), ())]))
        self.assertTrue(all(is_whole(number) for number in net.first_of("a") + [net.room_of("a")]))
        self.assertTrue(all(is_whole(number) for number in net.part_of("t").numbers))

    def test_what_is_shown_is_read_alike(self):
        for source, net, rows in drawn_nets(21, 100):
            text = show_net(net)
            self.assertEqual(read_net(text).told(), net.told())
            self.assertEqual(show_net(read_net(text)), text)

    def test_lane_as_a_name(self):
        text = "lane lane 1\npass lane : lane > lane"
        net = read_net(text)
        self.assertEqual(net.told(), ([("lane", 1, ())], [("pass", "lane", (), ("lane",), ("lane",))]))
        self.assertEqual(show_net(net), text)

    def test_kinds_as_names(self):
        text = "lane give 1\nlane take 1\ngive take : > give\npass pass : give > take\ntake give : take >"
        self.assertEqual(show_net(read_net(text)), text)


class BadRows(unittest.TestCase):
    def bad(self, text, line):
        with self.subTest(text):
            with self.assertRaises(LaneError) as taken:
                read_net(text)
            self.assertIs(type(taken.exception), BadLine)
            self.assertEqual(taken.exception.line, line)
            self.assertTrue(is_whole(taken.exception.line))

    def test_rows_of_lanes(self):
        for row in ("lane", "lane b", "lane b ", "lane b x", "lane b 1 x", "lane b 1 ", "lane b  1", "lane  b 1",
                    " lane b 1", "lane B 1", "lane 1 1", "lane 1", "lane b 01", "lane b 00", "lane b 1 00", "lane b 1 01",
                    "lane b -1", "lane b +1", "lane b 1 -1", "lane b 1000000000", "lane b 1 1000000000", "lane b 1 :",
                    "lane b 1.0", "lane b : 1", "lane b : >", "lane bbbbbbbbb 1", "lane b 1\t", "lane\tb 1", "lane : 1",
                    "Lane b 1", "lanes b 1", "lane b 1 > a", "lane b 9999999999", "lane b 1 99999999999", "lane ", "lane  "):
            self.bad(with_row(1, row), 1)
            self.bad(row + "\n" + TEXT, 0)

    def test_rows_of_parts(self):
        for row in ("turn", "turn t", "turn t :", "turn t >", "turn t 3 1", "turn t 3 1 : a", "turn t 3 1 > b", "turn t 3 1 a > b",
                    "turn t 3 1 : a b", "turn t 3 1 : : a > b", "turn t 3 1 : a > > b", "turn t 3 1 : a > b >",
                    "turn t 3 1 : a : > b", "turn t 3 1 : a > b :", "turn t 3 1 > a : b", "turn t > 3 1 : a b",
                    "turn t 3 1 : a > : b", "turn t : 3 1 : a > b", "turn t : 3 1 > b", "turn t 3 1 : a > 1",
                    "turn t 3 1 : 1 > b", "turn t x 1 : a > b", "turn t 3 x : a > b", "turn t 03 1 : a > b",
                    "turn t 3 01 : a > b", "turn t 3 1000000000 : a > b", "turn t -3 1 : a > b", "turn T 3 1 : a > b",
                    "turn 3 1 : a > b", "turn : a > b", "Turn t 3 1 : a > b", "turn t 3 1 : A > b", "turn t 3 1 : a > B",
                    "turn t 3 1 : aaaaaaaaa > b", "turn ttttttttt 3 1 : a > b", "turnturnt t 3 1 : a > b",
                    " turn t 3 1 : a > b", "turn t 3 1 : a > b ", "turn  t 3 1 : a > b", "turn t  3 1 : a > b",
                    "turn t 3  1 : a > b", "turn t 3 1  : a > b", "turn t 3 1 :  a > b", "turn t 3 1 : a  > b",
                    "turn t 3 1 : a >  b", "turn t 3 1: a > b", "turn t 3 1 :a > b", "turn t 3 1 : a> b", "turn t 3 1 : a >b",
                    "1 t : a > b", ": t 3 1 > b", "> : a", ": >", ":", ">", "t : >", ": t >", "0", "turn t 3 1 : a\t> b",
                    "turn t 3 1 ; a > b", "turn t 3 1 : a -> b", "", " ", "  "):
            self.bad(with_row(3, row), 3)
            self.bad(with_row(2, row), 2)

    def test_no_sign_at_all(self):
        self.bad("", 0)
        self.bad("\n", 0)

    def test_empty_rows(self):
        self.bad(TEXT + "\n", 5)
        self.bad(TEXT + "\n\n", 5)
        self.bad("\n" + TEXT, 0)
        self.bad(TEXT.replace("\n", "\n\n", 1), 1)
        self.bad("\n".join(ROWS[:3] + [""] + ROWS[3:]), 3)

    def test_a_lane_behind_a_part(self):
        self.bad("\n".join([ROWS[0], ROWS[2], ROWS[1]] + ROWS[3:]), 2)
        self.bad(TEXT + "\nlane c 1", 5)
        self.bad("merge m : >\nlane c 1", 1)
        self.bad("give d : > a\nlane a 1\nlane b", 1)
        self.bad("give d : >\nlane", 1)

    def test_the_first_bad_row_is_told(self):
        self.bad("\n".join([ROWS[0], "lane b", ROWS[2], "turn t", ROWS[4]]), 1)
        self.bad("\n".join(ROWS[:3] + ["turn t", ""]), 3)
        self.bad("\n".join(ROWS + ["lane c 1", ""]), 5)

    def test_forms_are_refused_ahead_of_what_a_net_refuses(self):
        self.bad("lane a 0\nlane a 200 1\nmerge m : z >\ntake", 3)
        self.bad("lane a 1\n" * 30, 30)
        self.bad("merge m : >\n" * 30, 30)
        self.bad("\n".join(["lane a 1"] * 30 + ["pass p : a > a"] * 30 + ["pass"]), 60)

    def test_many_rows(self):
        self.bad("\n" * 59999, 0)
        self.bad("lane a 1\n" * 6000, 6000)


class RowsThatHaveTheirForm(unittest.TestCase):
    def refused(self, text, error, *field):
        with self.subTest(text):
            with self.assertRaises(LaneError) as taken:
                read_net(text)
            self.assertIs(type(taken.exception), error)
            for told in field:
                self.assertEqual(getattr(taken.exception, "word" if error is NoKind else "name"), told)

    def test_counts(self):
        self.refused("lane a 1", TooMany)
        self.refused("give d : > a", TooMany)
        self.refused("\n".join(["lane a 1"] * 25 + ROWS[2:]), TooMany)
        self.refused("\n".join(ROWS[:2] + [ROWS[2]] * 17), TooMany)

    def test_lanes(self):
        self.refused(with_row(1, "lane a 1"), Doubled, "a")
        self.refused(with_row(1, "lane b 0"), BadRoom, "b")
        self.refused(with_row(1, "lane b 200"), BadRoom, "b")
        self.refused(with_row(1, "lane b 999999999"), BadRoom, "b")
        self.refused(with_row(1, "lane b 1 2 3"), BadRoom, "b")
        self.refused("lane b 1" + " 1" * 29000 + "\n" + "\n".join(ROWS[2:]), BadRoom, "b")

    def test_parts(self):
        self.refused(with_row(3, "merge t 3 1 : a > b"), NoKind, "merge")
        self.refused(with_row(3, "t t : >"), NoKind, "t")
        self.refused(with_row(3, "turn d 3 1 : a > b"), Doubled, "d")
        self.refused(with_row(3, "turn t : a > b"), BadNumbers, "t")
        self.refused(with_row(3, "turn t 3 1 4 : a > b"), BadNumbers, "t")
        self.refused(with_row(3, "turn t 3 1 : > b"), BadLanes, "t")
        self.refused(with_row(3, "turn t 3 1 : a b > b"), BadLanes, "t")
        self.refused(with_row(3, "turn t 3 1 : z > b"), BadLanes, "t")
        self.refused(with_row(3, "turn t 3 1 : b > b"), BadLanes, "e")
        self.refused(with_row(3, "turn t 3 1 : a > a"), BadLanes, "t")

    def test_open_and_loose(self):
        self.refused("\n".join(ROWS[:4]), Open, "b")
        self.refused("\n".join(ROWS[:2] + ["lane c 1"] + ROWS[2:] + ["pass p : c > c"]), Loose, "p")


class SpoiltTexts(unittest.TestCase):
    def spoilt(self, source, text):
        place = source.randrange(len(text))
        sign = source.choice(" \n:>a0lane19z~A")
        choice = source.randrange(4)
        if choice == 0:
            return text[:place] + text[place + 1:]
        if choice == 1:
            return text[:place] + sign + text[place:]
        if choice == 2:
            return text[:place] + sign + text[place + 1:]
        rows = text.split("\n")
        source.shuffle(rows)
        return "\n".join(rows)

    def test_a_text_is_refused_or_is_the_text_of_its_net(self):
        seen = {}
        for source, net, rows in drawn_nets(22, 60):
            for count in range(20):
                text = self.spoilt(source, show_net(net))
                bad = first_bad_row(text)
                try:
                    answer = show_net(read_net(text))
                    self.assertEqual(answer, text)
                    self.assertIsNone(bad)
                    word = "read"
                except BadLine as error:
                    self.assertEqual(error.line, bad)
                    word = "BadLine"
                except LaneError as error:
                    self.assertIsNone(bad)
                    self.assertNotIsInstance(error, BadName)
                    word = type(error).__name__
                seen[word] = seen.get(word, 0) + 1
        for word in ("read", "BadLine", "NoKind", "BadLanes", "BadRoom"):
            self.assertGreater(seen.get(word, 0), 3, seen)


if __name__ == "__main__":
    unittest.main()
