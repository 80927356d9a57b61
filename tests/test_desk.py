"""Promises 91 to 96, and 2 and 4 of desks: rows that tell and ask a desk, their answers and their refusals."""

import random
import unittest

from drawn import CALM, Model, drawn_calm, drawn_held, drawn_nets, streams
from holdlane.desk import Desk
from holdlane.errors import BadLanes, BadLine, BadName, BadNumbers, BadRoom, BadRow, BadWord, Doubled, Full, IsDoor, Lacks
from holdlane.errors import LaneError, Loose, NoKind, NoSuch, NotCalm, Open, TooFast, TooMany
from holdlane.nets import Net
from holdlane.nettext import read_net, show_net
from holdlane.rooms import plan
from holdlane.shares import limits, share
from holdlane.slots import with_slot, worked_ahead

LINE = "lane a 2 5 0\nlane b 1\ngive d : > a\nturn t 3 1 : a > b\ntake e : b >"
HEAP = "lane a 3\nlane b 3\ngive d : > a\nheap h 4 : a > b\ntake e : b >"
SPLIT = ("lane c 3 0 1\nlane v 3 7 8\nlane x 1\nlane y 1\ngive g : > c\ngive h : > v\nsplit s : c v > x y\ntake e : x >\n"
         "take f : y >")
CROSSED = "lane a 2 1\nlane b 1 4\nlane c 1\nlane x 1\ngive g : > a\ncopy k : a > b c\nadd s : b c > x\ntake t : x >"
QUESTIONS = ["lane a", "lane b", "had a", "had b", "works d", "works t", "works e", "taken e", "left d", "waits", "ring",
             "stopped", "net", "plain a 300", "plain b 300", "plain b 1", "share", "limits t 9", "room 1 1"]
FIELDS = {BadLine: "line", NoKind: "word", Lacks: "lane", Full: "lane", TooFast: "ring", BadWord: None, TooMany: None}
NO_NAMES = ["", "A", "9", "9a", "ninesigns", ":", ">", ";", "a\n", "\na", "a\tb", "\u00e4", "a;", "-", "a-b"]


def state(desk, questions=QUESTIONS):
    return [answer(desk, question) for question in questions]


def answer(desk, row):
    """The answer, or the refusal with its field."""
    try:
        return desk.say(row)
    except LaneError as refusal:
        field = FIELDS.get(type(refusal), "name")
        return type(refusal), None if field is None else getattr(refusal, field)


def told(text, rows):
    desk = Desk(text)
    for row in rows:
        desk.say(row)
    return desk


class Checks(unittest.TestCase):
    def says(self, desk, row, text):
        said = desk.say(row)
        self.assertIs(type(said), str)
        self.assertEqual(said, text, row)

    def refused(self, desk, row, kind, field=None, questions=QUESTIONS):
        before = state(desk, questions)
        self.assertEqual(answer(desk, row), (kind, field), row)
        self.assertEqual(state(desk, questions), before, row)


class Making(Checks):
    def test_a_desk_of_a_text(self):
        desk = Desk(LINE)
        self.says(desk, "net", LINE.replace("\n", ";"))
        self.says(desk, "left d", "none")
        self.says(desk, "works t", "0")

    def test_each_refusal_of_a_text(self):
        cases = [
            ("", BadLine, 0), ("lane a 2\n", BadLine, 1), ("lane a 02\ngive d : > a\ntake e : a >", BadLine, 0),
            (LINE + "\nlane c 1", BadLine, 5), ("give d : > a\nlane a 2", BadLine, 1), (LINE + "\n", BadLine, 5),
            ("give d : > a", TooMany, None), ("lane a 2", TooMany, None),
            ("lane a 2\nlane a 2\ngive d : > a\ntake e : a >", Doubled, "a"), ("lane a 0\ngive d : > a\ntake e : a >", BadRoom, "a"),
            ("lane a 200\ngive d : > a\ntake e : a >", BadRoom, "a"), ("lane a 1 5 5\ngive d : > a\ntake e : a >", BadRoom, "a"),
            ("lane a 2\ndrop d : > a\ntake e : a >", NoKind, "drop"), ("lane a 2\ngive d : > a\ntake d : a >", Doubled, "d"),
            ("lane a 2\ngive d 4 : > a\ntake e : a >", BadNumbers, "d"), ("lane a 2\ngive d : a > a\ntake e : a >", BadLanes, "d"),
            ("lane a 2\ngive d : > x\ntake e : a >", BadLanes, "d"), ("lane a 2\nlane b 2\ngive d : > a\ntake e : a >", Open, "b"),
            ("lane a 2\nlane b 2 1\ngive d : > a\ntake e : a >\nheap h 0 : b > b", Loose, "h"),
        ]
        for text, kind, field in cases:
            with self.assertRaises(LaneError) as taken:
                Desk(text)
            self.assertIs(type(taken.exception), kind)
            name = FIELDS.get(kind, "name")
            if name:
                self.assertEqual(getattr(taken.exception, name), field)

    def test_two_desks_have_nothing_in_common(self):
        one, other = Desk(LINE), Desk(LINE)
        before = state(other)
        for row in ("row d 1 2 3", "more b 4", "slot b s f", "ahead t", "turn", "turns 9"):
            one.say(row)
        self.assertEqual(state(other), before)
        self.assertEqual(state(Desk(LINE)), before)


class Forms(Checks):
    def refused_all(self, rows):
        for desk in (Desk(LINE), told(LINE, ["row d 7 8 9", "turn"]), told(LINE, ["turns 300"])):
            for row in rows:
                self.refused(desk, row, BadLine, 0)

    def test_no_words_and_unknown_words(self):
        self.refused_all(["", " ", "  ", "lanes", "Turn", "TURN", "turn\n", "\nturn", "turn\ne", "turn\te", "ok", "none", "say", "give",
                          "pass", "lane\na", "waits;", "waits\n", "rows d", "5", ":", "stop", "plan 1 2", "rooms 1 2", "ahead\nt"])

    def test_words_too_many_or_too_few(self):
        self.refused_all(["row", "more", "more a", "more a 1 1", "more 1", "more a b", "more a b 1", "slot", "slot a", "slot a s",
                          "slot a s f f", "slot a s f 1", "ahead", "ahead t t", "ahead t 1", "turns", "turns 1 1", "turns e", "turns 1 e"])
        for word in ("lane", "had"):
            self.refused_all([word, word + " a b", word + " a a", word + " a 1"])
        for word in ("works", "taken", "left"):
            self.refused_all([word, word + " d e", word + " e 1"])
        for word in ("waits", "ring", "stopped", "net", "share"):
            self.refused_all([word + " a", word + " d", word + " 1", word + " " + word])
        for word, name in (("plain", "a"), ("limits", "t")):
            self.refused_all([word, f"{word} {name}", f"{word} 5", f"{word} {name} 5 5", f"{word} {name} {name} 5", f"{word} 5 {name}"])
        self.refused_all(["room", "room 1", "room 1 2 3", "room a 1 2", "room 1 a"])

    def test_a_blank_first_or_last_or_doubled(self):
        rows = ["row d", "row d 5 6", "more a 1", "slot a s f", "ahead t", "turn", "turn e d", "turns 3"] + QUESTIONS
        for row in rows:
            self.refused_all([" " + row, row + " ", row.replace(" ", "  ") if " " in row else row + "  "])

    def test_things_that_are_no_names(self):
        for name in NO_NAMES:
            rows = [f"row {name}", f"row {name} 5", f"more {name} 1", f"slot {name} s f", f"slot a {name} f", f"slot a s {name}",
                    f"ahead {name}", f"turn {name}", f"turn e {name}", f"turn {name} e", f"plain {name} 5", f"limits {name} 5"]
            rows += [f"{word} {name}" for word in ("lane", "had", "works", "taken", "left")]
            self.refused_all(rows)

    def test_numbers_of_no_right_form(self):
        for number in ("00", "01", "-1", "+1", "1.0", "1e3", "x", "", "1\n", "\u0661", "1_0", "0x1", "99999999999", ":"):
            self.refused_all([f"row d {number}", f"row d 5 {number} 6", f"more a {number}", f"turns {number}", f"plain a {number}",
                              f"limits t {number}", f"room {number} 1", f"room 1 {number}"])

    def test_numbers_out_of_bounds(self):
        self.refused_all(["row d 1000000000", "row d 5 9999999999", "more a 301", "more a 1000", "turns 0", "turns 301", "plain a 301",
                          "limits t 301", "room 0 1", "room 1 0", "room 0 0", "room 1001 1", "room 1 1001", "room 1001 1001"])

    def test_the_least_and_the_greatest_numbers(self):
        desk = Desk(LINE)
        for row in ("row d 0 999999999", "more a 0"):
            self.says(desk, row, "ok")
        for row in ("plain a 0", "plain a 300", "limits t 0", "limits t 300", "room 1 1", "room 1 1000", "room 1000 1000"):
            self.assertIs(type(desk.say(row)), str)
        self.refused(desk, "more a 300", BadRoom, "a")
        self.says(desk, "turns 1", "1")

    def test_a_form_that_is_wrong_goes_ahead_of_all_else(self):
        for desk in (Desk(SPLIT), told(SPLIT, ["turns 300"])):
            for row in ("row x 01", "row zz A", "more zz 301", "slot zz s", "ahead zz zz", "turn zz A", "limits zz 301", "limits s 01",
                        "plain zz 301", "room 1001 1", "share s", "taken zz zz", "lane 9"):
                self.refused(desk, row, BadLine, 0)


class Changes(Checks):
    def test_row(self):
        desk = Desk(HEAP)
        self.says(desk, "row d 5 6", "ok")
        self.says(desk, "left d", "5 6")
        self.says(desk, "plain b 300", "9 15")
        self.says(desk, "row d 7", "ok")
        self.says(desk, "left d", "7")
        self.says(desk, "plain b 300", "11")
        self.says(desk, "row d", "ok")
        self.says(desk, "left d", "none")
        self.says(desk, "plain b 300", "none")

    def test_each_door_has_its_own_row(self):
        desk = told(SPLIT, ["row g 1 2", "row h 3"])
        self.says(desk, "left g", "1 2")
        self.says(desk, "left h", "3")
        self.says(desk, "row h 9 9", "ok")
        self.says(desk, "left g", "1 2")
        self.says(desk, "left h", "9 9")

    def test_up_to_300_values(self):
        desk = Desk(HEAP)
        values = " ".join(str(value) for value in range(300))
        self.says(desk, f"row d {values}", "ok")
        self.says(desk, "left d", values)
        self.refused(desk, f"row d {values} 5", BadRow, "d", ["left d", "net"])
        self.refused(desk, f"row e {values} 5", NoSuch, "e", ["left d", "net"])

    def test_rows_for_no_give_door(self):
        for door in ("e", "h", "a", "zz"):
            self.refused(told(HEAP, ["row d 4"]), f"row {door} 5", NoSuch, door)
            self.refused(Desk(HEAP), f"row {door}", NoSuch, door)

    def test_more(self):
        desk = told(LINE, ["row d 7 8"])
        self.says(desk, "more b 1", "ok")
        self.says(desk, "net", LINE.replace("lane b 1", "lane b 2").replace("\n", ";"))
        self.says(desk, "more b 0", "ok")
        self.says(desk, "more a 197", "ok")
        self.assertIn("lane a 199 5 0;lane b 2;", desk.say("net"))
        self.says(desk, "left d", "7 8")
        self.refused(desk, "more a 1", BadRoom, "a")
        self.refused(desk, "more b 198", BadRoom, "b")
        self.refused(desk, "more t 300", NoSuch, "t")
        self.says(desk, "more b 197", "ok")

    def test_slot(self):
        desk = told(LINE, ["row d 7 8"])
        self.says(desk, "slot a s f", "ok")
        self.says(desk, "net", "lane a 2;lane b 1;lane f 2 5 0;give d : > a;turn t 3 1 : f > b;take e : b >;pass s : a > f")
        self.says(desk, "left d", "7 8")
        self.says(desk, "plain b 300", "16 1 22 25")
        questions = QUESTIONS + ["lane f", "works s"]
        for row, kind, name in (("slot zz t a", NoSuch, "zz"), ("slot t t a", NoSuch, "t"), ("slot a t a", Doubled, "t"),
                                ("slot a s g", Doubled, "s"), ("slot a z f", Doubled, "f"), ("slot a z a", Doubled, "a")):
            self.refused(desk, row, kind, name, questions)
        for count in range(12):
            self.says(desk, f"slot b s{count} f{count}", "ok")
        self.refused(desk, "slot a z z", TooMany)
        self.refused(desk, "slot a z a", Doubled, "a")

    def test_ahead(self):
        desk = Desk("lane a 3 1 2\nlane b 3\ngive d : > a\nheap h 4 : a > b\ntake e : b >")
        self.says(desk, "row d 9", "ok")
        self.says(desk, "ahead h", "ok")
        self.says(desk, "net", "lane a 3 2;lane b 3 5;give d : > a;heap h 5 : a > b;take e : b >")
        self.says(desk, "ahead h", "ok")
        self.refused(desk, "ahead h", Lacks, "a")
        self.says(desk, "had b", "5 7")
        self.says(desk, "works h", "0")
        self.says(desk, "plain b 300", "5 7 16")
        for name, kind in (("zz", NoSuch), ("a", NoSuch), ("d", IsDoor), ("e", IsDoor)):
            self.refused(desk, f"ahead {name}", kind, name)
        full = Desk("lane a 3 1 2\nlane b 1 7\ngive d : > a\nheap h 4 : a > b\ntake e : b >")
        self.refused(full, "ahead h", Full, "b")

    def test_changes_behind_one_another(self):
        desk = Desk(LINE)
        net = read_net(LINE)
        for row, then in (("more b 3", lambda net: Net([("a", 2, [5, 0]), ("b", 4, [])], net.told()[1])),
                          ("slot a s f", lambda net: with_slot(net, "a", "s", "f")), ("ahead t", lambda net: worked_ahead(net, "t")),
                          ("slot b u v", lambda net: with_slot(net, "b", "u", "v")), ("ahead t", lambda net: worked_ahead(net, "t"))):
            self.says(desk, row, "ok")
            net = then(net)
            self.says(desk, "net", show_net(net).replace("\n", ";"))
            self.says(desk, "row d 7 8 9", "ok")
            self.says(desk, "left d", "7 8 9")
        self.says(desk, "turn", "d e u")

    def test_too_late_behind_a_turn(self):
        rows = ["row d 5", "row d", "more a 1", "slot a s f", "ahead t", "row e 5", "row d" + " 5" * 301, "more zz 1", "more a 300",
                "slot zz s f", "slot a t a", "ahead zz", "ahead d"]
        for turned in ("turn", "turn d e", "turns 1", "turns 20", "turns 300"):
            desk = told(LINE, ["row d 7 8 9", turned])
            for row in rows:
                self.refused(desk, row, BadLine, 0)

    def test_a_turn_that_is_refused_makes_nothing_late(self):
        desk = Desk(LINE)
        for row, kind, field in (("turn zz", NoSuch, "zz"), ("turn t", NoSuch, "t"), ("turns 301", BadLine, 0)):
            self.refused(desk, row, kind, field)
        for row in ("row d 5", "more a 1", "slot a s f", "ahead t"):
            self.says(desk, row, "ok")

    def test_a_question_makes_nothing_late(self):
        desk = Desk(LINE)
        for row in ("row d 5", "more a 1", "slot a s f", "ahead t"):
            state(desk)
            self.says(desk, row, "ok")


class Turns(Checks):
    def test_turn_with_none_some_and_all_doors_held_back(self):
        desk = told(LINE, ["row d 7 8 9"])
        for row, worked in (("turn", "t"), ("turn d e", "none"), ("turn e", "d"), ("turn e e", "none"), ("turn", "e"),
                            ("turn d", "t"), ("turn d", "e"), ("turn e d e", "t"), ("turn", "d e"), ("turn", "d t"), ("turn", "e")):
            self.says(desk, row, worked)
        self.says(desk, "taken e", "16 1 22 25")

    def test_turn_refused(self):
        for desk in (Desk(LINE), told(LINE, ["turn"])):
            for row, name in (("turn t", "t"), ("turn a", "a"), ("turn d zz", "zz"), ("turn zz t", "zz"), ("turn t zz", "t"),
                              ("turn d e d t zz", "t")):
                self.refused(desk, row, NoSuch, name)

    def test_turns(self):
        desk = told(LINE, ["row d 7 8 9"])
        self.says(desk, "turns 1", "1")
        self.says(desk, "turns 2", "3")
        self.says(desk, "turns 100", "9")
        self.says(desk, "turns 1", "0")
        self.says(desk, "works d", "3")
        self.says(desk, "works t", "5")
        self.says(desk, "works e", "5")

    def test_300_turns_and_one_beyond(self):
        for rows, late in ((["turns 300"], 1), (["turns 299"], 2), (["turns 299", "turn"], 1), (["turn"] * 300, 1),
                           (["turns 100", "turn", "turns 199"], 1), (["turns 150", "turn d", "turn e e"], 149)):
            desk = told(LINE, ["row d 7 8"] + rows)
            for many in (late, late + 1, 300):
                self.refused(desk, f"turns {many}", BadLine, 0)
            if late > 1:
                self.assertIs(type(desk.say(f"turns {late - 1}")), str)
            for row in ("turn", "turn d", "turn zz", "turns 1"):
                self.refused(desk, row, BadLine, 0)

    def test_a_long_row_goes_on_for_300_turns(self):
        values = [str(value) for value in range(300)]
        desk = told("lane a 2\ngive d : > a\ntake e : a >", ["row d " + " ".join(values)])
        self.says(desk, "turns 300", "599")
        self.says(desk, "taken e", " ".join(values[:299]))
        self.says(desk, "lane a", "299")
        self.says(desk, "left d", "none")

    def test_drawn_nets_by_a_model(self):
        for source, net, rows in drawn_nets(930, 60):
            desk, model = Desk(show_net(net)), Model(net.told(), rows)
            for door in rows:
                desk.say(" ".join(["row", door] + [str(value) for value in rows[door]]))
            many = 0
            for turn in range(20):
                if source.randrange(3):
                    held = drawn_held(source, net) * source.randrange(1, 3)
                    source.shuffle(held)
                    self.says(desk, " ".join(["turn"] + held), " ".join(model.step(held)) or "none")
                else:
                    many = source.randrange(1, 6)
                    self.says(desk, f"turns {many}", str(sum(len(model.step([])) for count in range(many))))
                self.state_right(net, desk, model)

    def state_right(self, net, desk, model):
        for lane in net.lane_names():
            self.says(desk, f"lane {lane}", " ".join(str(value) for value in model.lanes[lane]) or "none")
        for door in net.gives():
            self.says(desk, f"left {door}", " ".join(str(value) for value in model.rows[door]) or "none")
        waits = [f"{part} {what} {lane}".strip() if lane else f"{part} end" for part, lane, what in model.waits()]
        self.says(desk, "waits", "; ".join(waits) or "none")
        self.says(desk, "stopped", "no" if model.able() else "yes")


class Questions(Checks):
    def check(self, desk, answers):
        for row, text in answers.items():
            self.says(desk, row, text)

    def test_at_the_beginning(self):
        self.check(told(LINE, ["row d 7 8"]), {
            "lane a": "5 0", "lane b": "none", "had a": "5 0", "had b": "none", "works d": "0", "works t": "0", "works e": "0",
            "taken e": "none", "left d": "7 8", "waits": "d room a; e value b", "ring": "none", "stopped": "no",
            "net": "lane a 2 5 0;lane b 1;give d : > a;turn t 3 1 : a > b;take e : b >"})

    def test_amid_a_run(self):
        self.check(told(LINE, ["row d 7 8", "turns 3"]), {
            "lane a": "7", "lane b": "1", "had a": "5 0 7", "had b": "16 1", "works d": "1", "works t": "2", "works e": "1",
            "taken e": "16", "left d": "8", "waits": "t room b", "ring": "none", "stopped": "no",
            "net": "lane a 2 7;lane b 1 1;give d : > a;turn t 3 1 : a > b;take e : b >"})

    def test_when_it_stands_still(self):
        self.check(told(LINE, ["row d 7 8", "turns 50"]), {
            "lane a": "none", "lane b": "none", "had a": "5 0 7 8", "had b": "16 1 22 25", "works d": "2", "works t": "4",
            "works e": "4", "taken e": "16 1 22 25", "left d": "none", "waits": "d end; t value a; e value b", "ring": "none",
            "stopped": "yes", "net": "lane a 2;lane b 1;give d : > a;turn t 3 1 : a > b;take e : b >"})

    def test_a_heap_in_the_net_as_it_stands(self):
        desk = told(HEAP, ["row d 5 6", "turns 2"])
        self.says(desk, "net", "lane a 3 6;lane b 3 9;give d : > a;heap h 9 : a > b;take e : b >")

    def test_rings_of_waits(self):
        desk = Desk(CROSSED)
        self.says(desk, "ring", "k room b; s value c")
        self.says(desk, "waits", "g end; k room b; s value c; t value x")
        self.says(desk, "stopped", "yes")
        desk = told(CROSSED, ["row g 1 1 1", "turns 9"])
        self.says(desk, "ring", "k room b; s value c")
        self.says(desk, "waits", "g room a; k room b; s value c; t value x")
        desk = Desk("lane a 1 4\nheap h 2 : a > a")
        self.says(desk, "ring", "h room a")
        self.says(desk, "waits", "h room a")

    def test_no_waits(self):
        desk = told("lane a 3 5\ngive d : > a\ntake e : a >", ["row d 1"])
        self.says(desk, "waits", "none")
        self.says(desk, "ring", "none")
        self.says(desk, "stopped", "no")

    def test_no_such_lane_part_or_door(self):
        for desk in (Desk(LINE), told(LINE, ["turn"]), told(LINE, ["turns 300"])):
            for word, names in (("lane", ["d", "t", "e", "zz"]), ("had", ["d", "t", "e", "zz"]), ("works", ["a", "b", "zz"]),
                                ("taken", ["d", "t", "a", "zz"]), ("left", ["e", "t", "a", "zz"])):
                for name in names:
                    self.refused(desk, f"{word} {name}", NoSuch, name)

    def test_names_of_lanes_and_parts_are_apart(self):
        desk = told("lane d 2\nlane e 2\ngive e : > d\npass t : d > e\ntake d : e >", ["row e 4 5 6", "turns 2"])
        self.check(desk, {"lane d": "5", "lane e": "4", "left e": "6", "taken d": "none", "works d": "0", "works e": "2"})

    def test_questions_change_nothing(self):
        desk = told(LINE, ["row d 7 8", "turn"])
        before = state(desk)
        for count in range(3):
            self.assertEqual(state(desk), before)


class NetQuestions(Checks):
    def test_plain(self):
        desk = told(LINE, ["row d 7 8"])
        for row, text in (("plain a 0", "5 0"), ("plain b 0", "none"), ("plain a 1", "5 0 7"), ("plain b 1", "16"), ("plain b 3", "16 1 22"),
                          ("plain b 300", "16 1 22 25"), ("plain a 300", "5 0 7 8")):
            self.says(desk, row, text)
        for name in ("d", "t", "zz"):
            self.refused(desk, f"plain {name} 5", NoSuch, name)

    def test_share(self):
        for text, told_share in ((LINE, "1/2"), (LINE.replace("lane b 1", "lane b 2"), "1/1"), (CROSSED, "0/1")):
            self.says(Desk(text), "share", told_share)
        self.says(told(LINE, ["more b 1"]), "share", "1/1")
        self.refused(Desk(SPLIT), "share", NotCalm, "s")

    def test_limits(self):
        desk = told(LINE, ["row d 7 8"])
        paper = share(read_net(LINE))
        for name in ("d", "t", "e"):
            for turns in (0, 1, 2, 17, 300):
                self.says(desk, f"limits {name} {turns}", "%d %d" % limits(paper, name, turns))
        self.says(desk, "limits t 0", "0 0")
        for name in ("a", "zz"):
            self.refused(desk, f"limits {name} 5", NoSuch, name)
        for name in ("s", "zz", "g"):
            self.refused(Desk(SPLIT), f"limits {name} 5", NotCalm, "s")

    def test_room(self):
        desk = Desk(LINE)
        for row, text in (("room 1 1", "b 1"), ("room 1 2", "none"), ("room 500 1000", "none"), ("room 501 1000", "b 1")):
            self.says(desk, row, text)
        for row in ("room 2 1", "room 1000 999"):
            self.refused(desk, row, BadWord)
            self.refused(Desk(SPLIT), row, BadWord)
            self.refused(Desk("lane a 2\nheap h 2 : a > a"), row, BadWord)
        self.refused(Desk(SPLIT), "room 1 1", NotCalm, "s")
        self.refused(Desk("lane a 2\nheap h 2 : a > a"), "room 1 1000", TooFast, [("h", "h", 0, "a", "along")])

    def test_room_for_several_lanes_in_the_order_of_the_net(self):
        text = "lane c 1\nlane a 1\nlane b 1\ngive g : > a\npass p : a > b\npass q : b > c\ntake t : c >"
        self.says(Desk(text), "room 2 3", "c 1; a 1; b 1")
        self.says(Desk(text.replace("lane a 1", "lane a 2")), "room 1 1", "c 1; b 1")

    def test_room_that_a_plan_tells_brings_the_share(self):
        for source, net in drawn_calm(950, 8):
            top, bottom = source.choice([(1, 2), (2, 3), (9, 10), (1, 1)])
            if max(len(first) for name, room, first in net.told()[0]) > 150:
                continue
            desk = Desk(show_net(net))
            try:
                more = plan(net, top, bottom)[0]
            except TooFast as refusal:
                self.assertEqual(answer(desk, f"room {top} {bottom}"), (TooFast, refusal.ring))
                continue
            rows = [f"{lane} {more[lane]}" for lane in net.lane_names() if lane in more]
            self.says(desk, f"room {top} {bottom}", "; ".join(rows) or "none")
            for row in rows:
                self.says(desk, f"more {row}", "ok")
            told_top, told_bottom = desk.say("share").split("/")
            self.assertGreaterEqual(int(told_top) * bottom, top * int(told_bottom))
            self.says(desk, f"room {top} {bottom}", "none")

    def test_of_the_net_as_it_is_ahead_of_the_first_turn(self):
        questions = ["plain a 300", "plain b 300", "plain a 2", "share", "limits t 20", "limits d 7", "room 1 1", "room 2 3"]
        changes = ["row d 7 8 9", "more a 2", "slot b s f", "ahead t", "slot a u v"]
        for many in range(len(changes) + 1):
            desk = told(LINE, changes[:many])
            before = state(desk, questions)
            for row in ("turn", "turn e", "turn d", "turns 5", "turns 200"):
                desk.say(row)
                self.assertEqual(state(desk, questions), before)
            for name in ("zz", "t"):
                self.refused(desk, f"plain {name} 5", NoSuch, name)
            self.refused(desk, "limits zz 5", NoSuch, "zz")
            self.refused(desk, "room 2 1", BadWord)

    def test_behind_changes_they_tell_of_the_changed_net(self):
        desk = told(LINE, ["row d 7 8"])
        self.says(desk, "slot b s f", "ok")
        self.says(desk, "plain f 300", "16 1 22 25")
        self.says(desk, "share", "1/2")
        self.says(desk, "room 1 1", "b 1; f 1")
        self.says(desk, "ahead t", "ok")
        self.says(desk, "plain a 300", "0 7 8")
        self.says(desk, "plain b 0", "16")
        self.says(desk, "more b 1", "ok")
        self.says(desk, "room 1 1", "f 1")
        self.says(desk, "limits s 3", "%d %d" % limits(share(read_net(desk.say("net").replace(";", "\n"))), "s", 3))

    def test_drawn_nets(self):
        for source, net, rows in drawn_nets(951, 40, CALM):
            desk = Desk(show_net(net))
            for door in rows:
                desk.say(" ".join(["row", door] + [str(value) for value in rows[door]]))
            desk.say(f"turns {source.randrange(1, 20)}")
            paper, most = share(net), source.randrange(301)
            self.says(desk, "share", "%d/%d" % paper[:2])
            plain = streams(net.told(), rows, 30)
            for lane in net.lane_names():
                self.says(desk, f"plain {lane} 30", " ".join(str(value) for value in plain[lane]) or "none")
            for part in net.part_names():
                self.says(desk, f"limits {part} {most}", "%d %d" % limits(paper, part, most))


class NothingToTell(Checks):
    def test_none(self):
        desk = Desk("lane a 2\ngive d : > a\ntake e : a >")
        for row in ("lane a", "had a", "taken e", "left d", "plain a 300", "ring", "room 1 1", "turn", "turn d e"):
            self.says(desk, row, "none")
        desk = told("lane a 3 5\ngive d : > a\ntake e : a >", ["row d 1 2"])
        self.says(desk, "waits", "none")

    def test_numbers_are_told_though_they_are_0(self):
        desk = Desk("lane a 2\ngive d : > a\ntake e : a >")
        for row, text in (("works d", "0"), ("turns 5", "0"), ("limits d 0", "0 0")):
            self.says(desk, row, text)
        self.says(told("lane a 2 0\ngive d : > a\ntake e : a >", ["row d 0"]), "lane a", "0")


class Whatever(Checks):
    def drawn_row(self, source):
        """A row of the right form nearly always, by names and numbers that may be right."""
        name, number = lambda: source.choice("abdtesfuv"), lambda: source.choice(["0", "1", "2", "7", "200", "300"])
        row = source.choice([
            ["row", name(), number(), number()], ["more", name(), number()], ["slot", name(), name(), name()], ["ahead", name()],
            ["turn", name()], ["turn"], ["turns", number()], ["lane", name()], ["taken", name()], ["left", name()], ["works", name()],
            ["plain", name(), number()], ["limits", name(), number()], ["room", number(), number()], ["waits"], ["net"], ["share"]])
        return " ".join(row + [source.choice(["", "01", "A", "x\n"])] * (source.randrange(20) == 0))

    def test_what_is_refused_or_asked_changes_nothing_whatever_is_asked_behind_it(self):
        kinds = set()
        for number in range(60):
            source, desk = random.Random(number), Desk(LINE)
            for count in range(30):
                row, before = self.drawn_row(source), state(desk)
                said = answer(desk, row)
                if type(said) is tuple:
                    kinds.add(said[0])
                if type(said) is tuple or row.split(" ")[0] not in ("row", "more", "slot", "ahead", "turn", "turns"):
                    self.assertEqual(state(desk), before, row)
        self.assertLessEqual({BadLine, NoSuch, Doubled, BadRoom, IsDoor, BadWord, Full}, kinds)
        # A word that is no name has not the form of a row, so the name is never refused behind it.
        self.assertNotIn(BadName, kinds)


if __name__ == "__main__":
    unittest.main()
