"""Promises 31 to 34, and 2 and 3 of them: the plain net and rows for doors."""

import copy
import unittest

from drawn import drawn_nets, drawn_rows, drawn_value, streams
from holdlane.errors import BadRow, BadWord, LaneError, NoSuch
from holdlane.nets import Net
from holdlane.nettext import read_net
from holdlane.plain import need_rows, plain_rows
from holdlane.words import is_whole

TOP = 10 ** 9 - 1
LINE = "lane a 2 5 0\nlane b 1\ngive d : > a\nturn t 3 1 : a > b\ntake e : b >"
TWO_DOORS = "lane a 1\nlane b 1\nlane c 1\ngive g : > a\ngive h : > b\nadd s : a b > c\ntake e : c >"
NO_VALUES = [True, False, None, -1, 10 ** 9, 1.0, "", "1", [], [1], (1,), {}]


def with_rooms(net, room):
    lanes, parts = net.told()
    return Net([(name, room(name, len(first)), first) for name, old, first in lanes], parts)


class RowsOfLanes(unittest.TestCase):
    def told(self, text, rows, most, answer):
        with self.subTest(f"{text} {rows} {most}"):
            self.assertEqual(plain_rows(read_net(text), rows, most), answer)

    def test_first_values_come_first(self):
        self.told(LINE, {"d": [7, 8]}, 9, {"a": [5, 0, 7, 8], "b": [16, 1, 22, 25]})

    def test_at_most_so_many_workings(self):
        rows = {"d": [7, 8, 9]}
        self.told(LINE, rows, 0, {"a": [5, 0], "b": []})
        self.told(LINE, rows, 1, {"a": [5, 0, 7], "b": [16]})
        self.told(LINE, rows, 2, {"a": [5, 0, 7, 8], "b": [16, 1]})
        self.told(LINE, rows, 3, {"a": [5, 0, 7, 8, 9], "b": [16, 1, 22]})
        self.told(LINE, rows, 4, {"a": [5, 0, 7, 8, 9], "b": [16, 1, 22, 25]})

    def test_a_door_without_a_row(self):
        self.told(LINE, {}, 300, {"a": [5, 0], "b": [16, 1]})
        self.told(LINE, {"d": []}, 300, {"a": [5, 0], "b": [16, 1]})
        self.told(TWO_DOORS, {"h": [1, 2]}, 300, {"a": [], "b": [1, 2], "c": []})
        self.told(TWO_DOORS, {"h": [1, 2], "g": [10]}, 300, {"a": [10], "b": [1, 2], "c": [11]})

    def test_each_kind(self):
        one = "lane a 1\nlane b 1\ngive d : > a\n{} : a > b\ntake e : b >"
        for stage, given in (("pass p", [4, 0, TOP]), ("turn p 2 5", [13, 5, 3]), ("heap p 7", [11, 11, 10])):
            self.told(one.format(stage), {"d": [4, 0, TOP]}, 300, {"a": [4, 0, TOP], "b": given})
        two = TWO_DOORS.replace("add s", "{} s")
        rows = {"g": [1, 5, TOP, 3], "h": [2, 5, 1]}
        for stage, given in (("add", [3, 10, 0]), ("less", [1, 0, 0])):
            self.told(two.format(stage), rows, 300, {"a": rows["g"], "b": rows["h"], "c": given})
        fork = "lane a 1\nlane b 1\nlane c 1\ngive d : > a\ncopy k : a > b c\ntake e : b >\ntake f : c >"
        self.told(fork, {"d": [1, 2]}, 300, {"a": [1, 2], "b": [1, 2], "c": [1, 2]})
        cross = ("lane a 1\nlane b 1\nlane c 1\nlane x 1\ngive g : > a\ngive h : > b\n{} s : a b > c x\n"
                 "take e : c >\ntake f : x >")
        for stage, low, high in (("order", [1, 5, 1], [2, 5, TOP]), ("split", [], [2, 5, 1])):
            self.told(cross.format(stage), rows, 300, {"a": rows["g"], "b": rows["h"], "c": low, "x": high})

    def test_choose_takes_from_one_side_alone(self):
        text = ("lane a 1\nlane b 1\nlane c 1\nlane x 1\ngive g : > a\ngive h : > b\ngive i : > c\n"
                "choose s : a b c > x\ntake e : x >")
        rows = {"g": [0, 1, 2, 3, 3], "h": [10, 11, 12], "i": [20, 21]}
        self.told(text, rows, 300, {"a": [0, 1, 2, 3, 3], "b": [10, 11, 12], "c": [20, 21], "x": [10, 20, 11, 21]})
        self.told(text, rows, 3, {"a": [0, 1, 2], "b": [10, 11, 12], "c": [20, 21], "x": [10, 20, 11]})

    def test_split_gives_to_one_side_alone(self):
        text = ("lane a 1\nlane b 1\nlane c 1\nlane x 1\ngive g : > a\ngive h : > b\nsplit s : a b > c x\n"
                "take e : c >\ntake f : x >")
        rows = {"g": [0, 1, 2, 3, 3, 4], "h": [10, 11, 12, 13, 14]}
        self.told(text, rows, 300, {"a": rows["g"], "b": rows["h"], "c": [10, 12], "x": [11, 13, 14]})

    def test_a_lane_that_leads_back(self):
        text = "lane a 1\nlane b 1 1\nlane c 1\nlane x 1\ngive g : > a\nadd s : a b > c\ncopy k : c > b x\ntake e : x >"
        self.told(text, {"g": [1, 2, 3]}, 300, {"a": [1, 2, 3], "b": [1, 2, 4, 7], "c": [2, 4, 7], "x": [2, 4, 7]})
        empty = text.replace("lane b 1 1", "lane b 1")
        self.told(empty, {"g": [1, 2, 3]}, 300, {"a": [1, 2, 3], "b": [], "c": [], "x": []})

    def test_a_lane_of_a_part_to_itself(self):
        text = "lane a 1 1\nturn t 2 1 : a > a"
        self.told(text, {}, 0, {"a": [1]})
        self.told(text, {}, 3, {"a": [1, 3, 7, 15]})
        self.assertEqual(len(plain_rows(read_net(text), {}, 300)["a"]), 301)
        self.told("lane a 1\npass t : a > a", {}, 300, {"a": []})

    def test_a_ring_with_many_first_values(self):
        text = "lane a 3 1 2 3\nlane b 1\npass p : a > b\nheap h 0 : b > a"
        self.told(text, {}, 2, {"a": [1, 2, 3, 1, 3], "b": [1, 2]})
        self.told(text, {}, 5, {"a": [1, 2, 3, 1, 3, 6, 7, 10], "b": [1, 2, 3, 1, 3]})

    def test_three_hundred(self):
        row = [value * 3 for value in range(300)]
        for most in (299, 300):
            answer = plain_rows(read_net(LINE), {"d": row}, most)
            self.assertEqual(answer["a"], [5, 0] + row[:most])
            self.assertEqual(answer["b"], [3 * value + 1 for value in ([5, 0] + row)[:most]])

    def test_every_lane_is_told_and_nothing_else(self):
        for source, net, rows in drawn_nets(31, 30):
            answer = plain_rows(net, rows, 5)
            self.assertIs(type(answer), dict)
            self.assertEqual(sorted(answer), sorted(net.lane_names()))
            for row in answer.values():
                self.assertIs(type(row), list)
                self.assertTrue(all(is_whole(value) and 0 <= value <= TOP for value in row))

    def test_drawn_nets(self):
        for source, net, rows in drawn_nets(32, 200):
            for most in (0, 1, 2, 7, 25):
                self.assertEqual(plain_rows(net, rows, most), streams(net.told(), rows, most))


class WhatMakesNoDifference(unittest.TestCase):
    def test_rooms(self):
        for source, net, rows in drawn_nets(33, 60):
            answer = plain_rows(net, rows, 12)
            self.assertEqual(plain_rows(with_rooms(net, lambda name, first: max(1, first)), rows, 12), answer)
            self.assertEqual(plain_rows(with_rooms(net, lambda name, first: 199), rows, 12), answer)

    def test_the_order_of_parts_and_lanes(self):
        for source, net, rows in drawn_nets(34, 60):
            answer = plain_rows(net, rows, 12)
            for count in range(4):
                lanes, parts = net.told()
                source.shuffle(lanes)
                source.shuffle(parts)
                self.assertEqual(plain_rows(Net(lanes, parts), rows, 12), answer)

    def test_the_order_of_rows(self):
        rows = {"g": [1, 2], "h": [3, 4]}
        net = read_net(TWO_DOORS)
        self.assertEqual(plain_rows(net, dict(reversed(rows.items())), 9), plain_rows(net, rows, 9))


class LongerRows(unittest.TestCase):
    def goes_on(self, longer, shorter):
        for lane in shorter:
            self.assertEqual(longer[lane][:len(shorter[lane])], shorter[lane])

    def test_a_greater_number(self):
        for source, net, rows in drawn_nets(35, 60):
            ahead = plain_rows(net, rows, 0)
            self.assertEqual(ahead, {lane: net.first_of(lane) for lane in net.lane_names()})
            for most in (1, 2, 3, 5, 8, 30):
                behind = plain_rows(net, rows, most)
                self.goes_on(behind, ahead)
                ahead = behind

    def test_rows_that_go_on(self):
        for source, net, rows in drawn_nets(36, 60):
            ahead = plain_rows(net, rows, 12)
            more = drawn_rows(source, net)
            longer = {door: rows.get(door, []) + more.get(door, []) for door in net.gives()}
            self.goes_on(plain_rows(net, longer, 12), ahead)
            self.goes_on(plain_rows(net, longer, 20), ahead)


class Refusals(unittest.TestCase):
    def setUp(self):
        self.net = read_net(TWO_DOORS)

    def refused(self, net, rows, error, key):
        for ask in (lambda: need_rows(net, rows), lambda: plain_rows(net, rows, 3)):
            with self.subTest(f"{error.__name__} {rows}"):
                with self.assertRaises(LaneError) as taken:
                    ask()
                self.assertIs(type(taken.exception), error)
                self.assertIs(taken.exception.name, key)

    def test_need_rows_gives_nothing(self):
        for rows in ({}, {"g": []}, {"h": [0, TOP]}, {"h": [1], "g": [2]}, {"g": [5] * 300, "h": [TOP] * 300}):
            before = copy.deepcopy(rows)
            self.assertIsNone(need_rows(self.net, rows))
            self.assertEqual(rows, before)
        self.assertIsNone(need_rows(read_net("lane a 1\npass p : a > a"), {}))

    def test_keys_that_are_no_give_doors(self):
        for key in ("e", "s", "a", "z", "", "G", "g ", None, 0, 1, True, False, -1, (), ("g",), 1.5, frozenset(["g"]), b"g"):
            self.refused(self.net, {key: []}, NoSuch, key)
            self.refused(self.net, {"g": [1], key: [1], "h": [1]}, NoSuch, key)
            self.refused(self.net, {key: None}, NoSuch, key)

    def test_a_net_without_give_doors(self):
        self.refused(read_net("lane a 1\npass p : a > a"), {"p": []}, NoSuch, "p")

    def test_the_first_key_in_the_order_of_the_dict(self):
        self.refused(self.net, {"z": [], "y": []}, NoSuch, "z")
        self.refused(self.net, {"y": [], "z": []}, NoSuch, "y")
        self.refused(self.net, {"h": None, "g": None}, BadRow, "h")
        self.refused(self.net, {"g": None, "h": None}, BadRow, "g")
        self.refused(self.net, {"g": [1], "h": [-1]}, BadRow, "h")

    def test_a_key_is_refused_ahead_of_a_row(self):
        self.refused(self.net, {"g": None, "z": []}, NoSuch, "z")
        self.refused(self.net, {"g": [None], "h": (), "e": []}, NoSuch, "e")

    def test_rows_that_are_no_lists(self):
        for row in ((), (1, 2), None, "", "12", 0, 5, True, {}, {1: 1}, {1}, range(3), 1.5, b"1"):
            self.refused(self.net, {"g": row}, BadRow, "g")
            self.refused(self.net, {"h": [1], "g": row}, BadRow, "g")

    def test_rows_that_are_too_long(self):
        self.refused(self.net, {"g": [0] * 301}, BadRow, "g")
        self.refused(self.net, {"g": [0] * 300, "h": [0] * 1000}, BadRow, "h")
        self.refused(self.net, {"g": [None] * 301}, BadRow, "g")

    def test_things_that_are_no_values(self):
        for thing in NO_VALUES:
            self.refused(self.net, {"g": [thing]}, BadRow, "g")
            self.refused(self.net, {"g": [0, 1, thing]}, BadRow, "g")
            self.refused(self.net, {"g": [thing, 0]}, BadRow, "g")

    def test_most(self):
        for most in (True, False, None, "", "3", -1, 301, 10 ** 40, 1.0, [], [3], (3,), {}):
            for rows in ({}, {"g": [1]}, {"z": []}, {"g": None}, {None: None}):
                with self.subTest(f"{most!r} {rows}"):
                    with self.assertRaises(LaneError) as taken:
                        plain_rows(self.net, rows, most)
                    self.assertIs(type(taken.exception), BadWord)


class Unchanging(unittest.TestCase):
    def test_what_is_handed_in_stays_as_it_was(self):
        for source, net, rows in drawn_nets(37, 20):
            before, told = copy.deepcopy(rows), net.told()
            plain_rows(net, rows, 9)
            self.assertEqual(rows, before)
            self.assertEqual(net.told(), told)

    def test_what_is_told_is_the_askers_own(self):
        for source, net, rows in drawn_nets(38, 20):
            answer = plain_rows(net, rows, 9)
            before = copy.deepcopy(answer)
            for row in answer.values():
                row.append(drawn_value(source))
                row[0] = -1
            answer.clear()
            self.assertEqual(plain_rows(net, rows, 9), before)

    def test_a_row_is_not_told_as_it_was_handed_in(self):
        rows = {"g": [1], "h": [2]}
        plain_rows(read_net(TWO_DOORS), rows, 9)["a"].append(7)
        self.assertEqual(rows, {"g": [1], "h": [2]})


if __name__ == "__main__":
    unittest.main()
