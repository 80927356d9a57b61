"""Promises 26 to 28, and 2 and 3 of nets: what a net refuses and what it tells."""

import unittest

from drawn import drawn_nets
from holdlane import errors
from holdlane.errors import (BadLanes, BadName, BadNumbers, BadRoom, Doubled, LaneError, Loose, NoKind, NoSuch, Open,
                             TooMany)
from holdlane.nets import Net
from holdlane.parts import Part, Turn
from holdlane.words import is_whole

TOP = 10 ** 9 - 1
LANES = [("a", 2, [5, 0]), ("b", 1, []), ("c", 199, [TOP]), ("d", 3, [])]
PARTS = [
    ("give", "d", [], [], ["a"]),
    ("turn", "t", [3, 1], ["a"], ["b"]),
    ("copy", "k", [], ["b"], ["c", "d"]),
    ("take", "e", [], ["c"], []),
    ("take", "f", [], ["d"], []),
]
NO_NAMES = [True, False, None, 0, 7, 1.5, "", "A", "1a", "abcdefghi", "a b", "a\n", "a_b", ":", [], ["a"], ("a",), {}, {"a"}, b"a"]
NO_ROOMS = [True, False, None, 0, -1, 200, 201, 10 ** 40, 1.0, "", "1", [], [1], (1,), {}]
NO_VALUES = [True, False, None, -1, 10 ** 9, 10 ** 40, 1.0, "", "1", [], [1], (1,), {}]
NO_LANES = ["z", "", "A", "a ", "not a lane at all", 0, 1, -1, 10 ** 40, True, False, None]


def with_lane(place, lane):
    return LANES[:place] + [lane] + LANES[place + 1:]


def with_part(place, part):
    return PARTS[:place] + [part] + PARTS[place + 1:]


def ring_of(many):
    """So many passes in a ring, with as many lanes."""
    lanes = [("l%d" % place, 1, []) for place in range(many)]
    parts = [("pass", "p%d" % place, [], ["l%d" % place], ["l%d" % ((place + 1) % many)]) for place in range(many)]
    return lanes, parts


def largest():
    """Sixteen parts with twenty-four lanes: each lane leads from one part's end to the next free one."""
    names = ["l%d" % place for place in range(24)]
    turned = names[1:] + names[:1]
    parts = [("order", "o%d" % place, [], turned[2 * place:2 * place + 2], names[2 * place:2 * place + 2]) for place in range(8)]
    parts += [("pass", "p%d" % place, [], [turned[16 + place]], [names[16 + place]]) for place in range(8)]
    return [(name, 1, []) for name in names], parts


class Refusing(unittest.TestCase):
    def refused(self, lanes, parts, error, *field):
        with self.subTest(f"{error.__name__}: {lanes} {parts}"):
            with self.assertRaises(LaneError) as taken:
                Net(lanes, parts)
            self.assertIs(type(taken.exception), error)
            for told in field:
                self.assertIs(getattr(taken.exception, "word" if error is NoKind else "name"), told)


class Counts(Refusing):
    def test_a_net_without_lanes_or_parts(self):
        self.refused([], PARTS, TooMany)
        self.refused(LANES, [], TooMany)
        self.refused([], [], TooMany)

    def test_as_many_as_there_may_be(self):
        lanes, parts = largest()
        net = Net(lanes, parts)
        self.assertEqual((len(net.lane_names()), len(net.part_names())), (24, 16))
        self.assertEqual(len(Net(*ring_of(16)).part_names()), 16)
        self.assertEqual(len(Net(*ring_of(1)).part_names()), 1)

    def test_one_too_many(self):
        lanes, parts = largest()
        self.refused(lanes + [("m", 1, [])], parts, TooMany)
        self.refused(lanes, parts + [("pass", "q", [], ["l0"], ["l0"])], TooMany)
        self.refused(*ring_of(17), TooMany)
        self.refused(*ring_of(25), TooMany)

    def test_counts_are_refused_ahead_of_all_else(self):
        bad_lane, bad_part = (None, None, [None]), ("merge", None, [None], [None], [None])
        self.refused([bad_lane] * 25, [bad_part], TooMany)
        self.refused([bad_lane], [bad_part] * 17, TooMany)
        self.refused([bad_lane], [], TooMany)
        self.refused([], [bad_part], TooMany)


class LanesRefused(Refusing):
    def test_what_is_no_name(self):
        for name in NO_NAMES:
            for place in range(len(LANES)):
                self.refused(with_lane(place, (name, 1, [])), PARTS, BadName, name)

    def test_a_name_that_an_earlier_lane_has(self):
        self.refused(with_lane(1, ("a", 1, [])), PARTS, Doubled, "a")
        self.refused(with_lane(3, ("a", 1, [])), PARTS, Doubled, "a")
        self.refused(LANES + [("d", 1, [])], PARTS, Doubled, "d")

    def test_rooms(self):
        for room in NO_ROOMS:
            for place, name in enumerate("abcd"):
                self.refused(with_lane(place, (name, room, [])), PARTS, BadRoom, name)
        for room in (1, 2, 198, 199):
            net = Net(with_lane(1, ("b", room, [])), PARTS)
            self.assertEqual(net.room_of("b"), room)

    def test_less_room_than_first_values(self):
        for shape in (list, tuple):
            for many in (1, 2, 3, 198, 199):
                first = shape(range(many))
                net = Net(with_lane(1, ("b", many, first)), PARTS)
                self.assertEqual(net.first_of("b"), list(range(many)))
                self.refused(with_lane(1, ("b", many - 1, first)), PARTS, BadRoom, "b")
            self.refused(with_lane(1, ("b", 199, shape(range(200)))), PARTS, BadRoom, "b")
            self.refused(with_lane(1, ("b", 200, shape(range(200)))), PARTS, BadRoom, "b")

    def test_first_values(self):
        for thing in NO_VALUES:
            for shape in (list, tuple):
                self.refused(with_lane(1, ("b", 3, shape([thing]))), PARTS, BadNumbers, "b")
                self.refused(with_lane(2, ("c", 3, shape([0, 1, thing]))), PARTS, BadNumbers, "c")
                self.refused(with_lane(0, ("a", 3, shape([thing, 4]))), PARTS, BadNumbers, "a")
        self.assertEqual(Net(with_lane(1, ("b", 2, (0, TOP))), PARTS).first_of("b"), [0, TOP])

    def test_the_order_within_a_lane(self):
        self.refused(with_lane(1, ("B", 0, [None])), PARTS, BadName, "B")
        self.refused(with_lane(1, ("a", 0, [None])), PARTS, Doubled, "a")
        self.refused(with_lane(1, ("b", 0, [None])), PARTS, BadRoom, "b")
        self.refused(with_lane(1, ("b", 1, [None, None])), PARTS, BadRoom, "b")
        self.refused(with_lane(1, ("b", True, [None])), PARTS, BadRoom, "b")

    def test_lane_by_lane(self):
        self.refused([("a", 2, [None]), ("B", 1, [])] + LANES[2:], PARTS, BadNumbers, "a")
        self.refused([("a", 0, []), ("a", 1, [])] + LANES[2:], PARTS, BadRoom, "a")
        self.refused([("a", 1, []), ("a", 1, []), ("C", 0, []), LANES[3]], PARTS, Doubled, "a")
        self.refused(LANES[:2] + [("C", 1, []), ("d", 0, [])], PARTS, BadName, "C")
        self.refused(LANES[:2] + [("c", 0, []), ("d", 200, [])], PARTS, BadRoom, "c")

    def test_lanes_are_refused_ahead_of_parts(self):
        for part in (("merge", "d", [], [], ["a"]), ("give", "D", [], [], ["a"]), ("give", "d", [1], [], ["a"]),
                     ("give", "d", [], [], ["z"]), ("give", "d", [], [], [])):
            for lane, error in ((("D", 1, []), BadName), (("a", 1, []), Doubled), (("d", 0, []), BadRoom),
                                (("d", 1, [-1]), BadNumbers)):
                self.refused(with_lane(3, lane), with_part(0, part), error, lane[0])


class PartsRefused(Refusing):
    def test_kinds_that_there_are_not(self):
        for word in ("", "Give", "give ", " give", "lane", "merge", "give\n", "0", "part"):
            for place in range(len(PARTS)):
                self.refused(LANES, with_part(place, (word,) + PARTS[place][1:]), NoKind, word)

    def test_what_is_no_name(self):
        for name in NO_NAMES:
            for place in range(len(PARTS)):
                part = PARTS[place]
                self.refused(LANES, with_part(place, (part[0], name) + part[2:]), BadName, name)

    def test_a_name_that_an_earlier_part_has(self):
        self.refused(LANES, with_part(1, ("turn", "d", [3, 1], ["a"], ["b"])), Doubled, "d")
        self.refused(LANES, with_part(4, ("take", "d", [], ["d"], [])), Doubled, "d")
        self.refused(LANES, with_part(4, ("take", "e", [], ["d"], [])), Doubled, "e")

    def test_numbers(self):
        for thing in NO_VALUES:
            for shape in (list, tuple):
                self.refused(LANES, with_part(1, ("turn", "t", shape([thing, 1]), ["a"], ["b"])), BadNumbers, "t")
                self.refused(LANES, with_part(1, ("turn", "t", shape([1, thing]), ["a"], ["b"])), BadNumbers, "t")
                self.refused(LANES, with_part(1, ("heap", "t", shape([thing]), ["a"], ["b"])), BadNumbers, "t")
        self.refused(LANES, with_part(1, ("turn", "t", [1], ["a"], ["b"])), BadNumbers, "t")
        self.refused(LANES, with_part(1, ("turn", "t", [1, 2, 3], ["a"], ["b"])), BadNumbers, "t")
        self.refused(LANES, with_part(0, ("give", "d", [1], [], ["a"])), BadNumbers, "d")

    def test_lanes_too_many_or_too_few(self):
        for shape in (list, tuple):
            self.refused(LANES, with_part(0, ("give", "d", [], shape(["b"]), shape(["a"]))), BadLanes, "d")
            self.refused(LANES, with_part(0, ("give", "d", [], [], shape([]))), BadLanes, "d")
            self.refused(LANES, with_part(2, ("copy", "k", [], ["b"], shape(["c"]))), BadLanes, "k")
            self.refused(LANES, with_part(2, ("copy", "k", [], ["b"], shape(["c", "d", "a"]))), BadLanes, "k")
            self.refused(LANES, with_part(3, ("take", "e", [], shape([]), [])), BadLanes, "e")

    def test_a_lane_that_is_not_there(self):
        for lane in NO_LANES:
            self.refused(LANES, with_part(0, ("give", "d", [], [], [lane])), BadLanes, "d")
            self.refused(LANES, with_part(1, ("turn", "t", [3, 1], [lane], ["b"])), BadLanes, "t")
            self.refused(LANES, with_part(2, ("copy", "k", [], ["b"], ["c", lane])), BadLanes, "k")
            self.refused(LANES, with_part(4, ("take", "f", [], (lane,), [])), BadLanes, "f")

    def test_a_second_taker_or_giver(self):
        self.refused(LANES, with_part(4, ("take", "f", [], ["c"], [])), BadLanes, "f")
        self.refused(LANES, with_part(2, ("copy", "k", [], ["a"], ["c", "d"])), BadLanes, "k")
        self.refused(LANES, with_part(2, ("copy", "k", [], ["b"], ["a", "d"])), BadLanes, "k")
        self.refused(LANES, with_part(1, ("turn", "t", [3, 1], ["a"], ["a"])), BadLanes, "t")

    def test_a_second_taker_or_giver_that_is_the_same_part(self):
        self.refused(LANES, with_part(2, ("copy", "k", [], ["b"], ["c", "c"])), BadLanes, "k")
        self.refused(LANES[:2], [("add", "s", [], ["a", "a"], ["b"])], BadLanes, "s")
        self.refused(LANES[:3], [("choose", "s", [], ["a", "b", "a"], ["c"])], BadLanes, "s")

    def test_a_lane_of_a_part_to_itself(self):
        net = Net([("a", 1, [])], [("pass", "p", [], ["a"], ["a"])])
        self.assertEqual((net.giver_of("a"), net.taker_of("a")), ("p", "p"))
        net = Net([("a", 1, []), ("b", 1, [])], [("order", "p", [], ["a", "b"], ["b", "a"])])
        self.assertEqual((net.giver_of("b"), net.taker_of("b")), ("p", "p"))

    def test_a_lane_and_a_part_that_are_called_alike(self):
        net = Net([("a", 1, []), ("b", 1, [])], [("give", "b", [], [], ["a"]), ("pass", "a", [], ["a"], ["b"]),
                                                 ("take", "c", [], ["b"], [])])
        self.assertEqual((net.giver_of("a"), net.taker_of("a")), ("b", "a"))
        self.assertEqual((net.giver_of("b"), net.taker_of("b")), ("a", "c"))

    def test_the_order_within_a_part(self):
        self.refused(LANES, with_part(1, ("merge", "D", [None], [None], [])), NoKind, "merge")
        self.refused(LANES, with_part(1, ("merge", "d", [3, 1], ["a"], ["b"])), NoKind, "merge")
        self.refused(LANES, with_part(1, ("turn", "T", [None], [None], [])), BadName, "T")
        self.refused(LANES, with_part(1, ("turn", "d", [None], [None], [])), Doubled, "d")
        self.refused(LANES, with_part(1, ("turn", "t", [None], [None], [])), BadNumbers, "t")
        self.refused(LANES, with_part(1, ("turn", "t", [3], ["z"], ["b"])), BadNumbers, "t")
        self.refused(LANES, with_part(1, ("turn", "t", [3, 1], [None], [])), BadLanes, "t")

    def test_part_by_part(self):
        self.refused(LANES, [("give", "d", [], [], ["z"]), ("merge", "t", [], [], [])] + PARTS[2:], BadLanes, "d")
        self.refused(LANES, [("give", "d", [1], [], ["a"]), ("turn", "d", [], [], [])] + PARTS[2:], BadNumbers, "d")
        self.refused(LANES, PARTS[:2] + [("copy", "k", [], ["a"], ["c", "d"]), ("take", "E", [], ["c"], [])], BadLanes, "k")
        self.refused(LANES, PARTS[:3] + [("take", "E", [], ["c"], []), ("merge", "f", [], [], [])], BadName, "E")
        self.refused(LANES, PARTS[:3] + [("take", "k", [], ["c"], []), ("merge", "f", [], [], [])], Doubled, "k")


class OpenAndLoose(Refusing):
    def test_a_lane_without_taker(self):
        self.refused(LANES, PARTS[:4], Open, "d")
        self.refused(LANES, PARTS[:3], Open, "c")
        self.refused(LANES + [("y", 1, []), ("x", 1, [])], PARTS, Open, "y")

    def test_a_lane_without_giver(self):
        self.refused(LANES, PARTS[1:], Open, "a")
        self.refused(LANES[:1], [("take", "e", [], ["a"], [])], Open, "a")
        self.refused(LANES[:1], [("give", "e", [], [], ["a"])], Open, "a")

    def test_open_goes_by_the_order_of_lanes(self):
        net_parts = [("give", "d", [], [], ["b"]), ("take", "e", [], ["a"], [])]
        self.refused([("a", 1, []), ("b", 1, [])], net_parts, Open, "a")
        self.refused([("b", 1, []), ("a", 1, [])], net_parts, Open, "b")

    def test_parts_are_refused_ahead_of_open_lanes(self):
        self.refused(LANES, PARTS[:3] + [("take", "E", [], ["c"], [])], BadName, "E")
        self.refused(LANES, PARTS[:3] + [("take", "e", [], ["z"], [])], BadLanes, "e")
        self.refused(LANES, PARTS[1:4] + [("merge", "f", [], ["d"], [])], NoKind, "merge")

    def test_a_part_that_is_not_joined(self):
        lanes = [("a", 1, []), ("b", 1, []), ("c", 1, [])]
        parts = [("give", "g", [], [], ["a"]), ("take", "t", [], ["a"], []), ("give", "h", [], [], ["b"]),
                 ("take", "u", [], ["b"], []), ("pass", "p", [], ["c"], ["c"])]
        self.refused(lanes, parts, Loose, "h")
        self.refused(lanes, list(reversed(parts)), Loose, "u")
        self.refused(lanes, [parts[0], parts[4]] + parts[1:4], Loose, "p")
        self.refused(lanes[:2], [parts[0], parts[3], parts[2], parts[1]], Loose, "u")

    def test_joined_along_and_against_lanes_in_many_steps(self):
        # g and h never give to one another: they are joined by the parts that take from both.
        lanes = [(name, 1, []) for name in "abcdef"]
        parts = [("give", "g", [], [], ["a"]), ("give", "h", [], [], ["b"]), ("give", "i", [], [], ["c"]),
                 ("add", "s", [], ["a", "d"], ["e"]), ("copy", "k", [], ["b"], ["d", "f"]),
                 ("less", "z", [], ["f", "c"], ["y"]), ("take", "t", [], ["e"], []), ("take", "u", [], ["y"], [])]
        lanes.append(("y", 1, []))
        for turned in range(len(parts)):
            net = Net(lanes, parts[turned:] + parts[:turned])
            self.assertEqual(len(net.part_names()), 8)
            net = Net(list(reversed(lanes)), list(reversed(parts[turned:] + parts[:turned])))
            self.assertEqual(len(net.part_names()), 8)

    def test_open_is_refused_ahead_of_loose(self):
        lanes = [("a", 1, []), ("b", 1, []), ("c", 1, [])]
        parts = [("give", "g", [], [], ["a"]), ("take", "t", [], ["a"], []), ("pass", "p", [], ["b"], ["b"])]
        self.refused(lanes, parts, Open, "c")
        self.refused(lanes[:2], parts, Loose, "p")


class Telling(unittest.TestCase):
    def setUp(self):
        self.net = Net(LANES, PARTS)

    def test_names_in_order(self):
        self.assertEqual(self.net.lane_names(), ["a", "b", "c", "d"])
        self.assertEqual(self.net.part_names(), ["d", "t", "k", "e", "f"])
        self.assertEqual(self.net.gives(), ["d"])
        self.assertEqual(self.net.takes(), ["e", "f"])
        turned = Net(list(reversed(LANES)), list(reversed(PARTS)))
        self.assertEqual(turned.lane_names(), ["d", "c", "b", "a"])
        self.assertEqual(turned.part_names(), ["f", "e", "k", "t", "d"])
        self.assertEqual(turned.takes(), ["f", "e"])

    def test_a_net_without_doors(self):
        net = Net(*ring_of(2))
        self.assertEqual((net.gives(), net.takes()), ([], []))

    def test_lanes(self):
        rooms = [self.net.room_of(name) for name in "abcd"]
        self.assertEqual(rooms, [2, 1, 199, 3])
        self.assertTrue(all(is_whole(room) for room in rooms))
        self.assertEqual([self.net.first_of(name) for name in "abcd"], [[5, 0], [], [TOP], []])
        self.assertEqual([self.net.giver_of(name) for name in "abcd"], ["d", "t", "k", "k"])
        self.assertEqual([self.net.taker_of(name) for name in "abcd"], ["t", "k", "e", "f"])

    def test_parts(self):
        turn = self.net.part_of("t")
        self.assertIs(type(turn), Turn)
        self.assertEqual((turn.name, turn.numbers, turn.ins, turn.outs), ("t", (3, 1), ("a",), ("b",)))
        for kind, name, numbers, ins, outs in PARTS:
            part = self.net.part_of(name)
            self.assertIsInstance(part, Part)
            self.assertEqual((part.kind(), part.name), (kind, name))
            self.assertEqual((part.numbers, part.ins, part.outs), (tuple(numbers), tuple(ins), tuple(outs)))

    def test_the_first_part_that_chooses(self):
        self.assertIsNone(self.net.odd())
        choose, split = ("choose", "x", [], ["a", "b", "c"], ["d"]), ("split", "y", [], ["d", "e"], ["b", "c"])
        rest = [("give", "g", [], [], ["a"]), ("give", "h", [], [], ["e"])]
        lanes = [(name, 1, []) for name in "abcde"]
        self.assertEqual(Net(lanes, rest + [choose, split]).odd(), "x")
        self.assertEqual(Net(lanes, [split] + rest + [choose]).odd(), "y")
        lanes = [(name, 1, []) for name in "abcd"]
        self.assertEqual(Net(lanes, rest[:1] + [choose, ("copy", "k", [], ["d"], ["b", "c"])]).odd(), "x")
        split = ("split", "y", [], ["a", "b"], ["c", "d"])
        self.assertEqual(Net(lanes, rest[:1] + [("add", "s", [], ["c", "d"], ["b"]), split]).odd(), "y")

    def test_all_of_it(self):
        told = self.net.told()
        self.assertIs(type(told), tuple)
        self.assertEqual(told, ([("a", 2, (5, 0)), ("b", 1, ()), ("c", 199, (TOP,)), ("d", 3, ())],
                                [("give", "d", (), (), ("a",)), ("turn", "t", (3, 1), ("a",), ("b",)),
                                 ("copy", "k", (), ("b",), ("c", "d")), ("take", "e", (), ("c",), ()),
                                 ("take", "f", (), ("d",), ())]))
        self.assertTrue(all(type(lane) is tuple and type(lane[2]) is tuple for lane in told[0]))
        self.assertTrue(all(type(part) is tuple and all(type(row) is tuple for row in part[2:]) for part in told[1]))

    def test_lists_and_tuples_within_are_told_alike(self):
        lanes = [(name, room, tuple(first)) for name, room, first in LANES]
        parts = [(kind, name, tuple(numbers), tuple(ins), tuple(outs)) for kind, name, numbers, ins, outs in PARTS]
        self.assertEqual(Net(lanes, parts).told(), self.net.told())

    def test_a_net_of_what_a_net_told_is_told_alike(self):
        for source, net, rows in drawn_nets(11, 60):
            self.assertEqual(Net(*net.told()).told(), net.told())

    def test_drawn_nets_tell_what_hangs_together(self):
        for source, net, rows in drawn_nets(12, 60):
            lanes, parts = net.told()
            self.assertEqual(net.lane_names(), [lane[0] for lane in lanes])
            self.assertEqual(net.part_names(), [part[1] for part in parts])
            for name, room, first in lanes:
                self.assertEqual((net.room_of(name), net.first_of(name)), (room, list(first)))
                self.assertEqual([net.giver_of(name)], [part[1] for part in parts if name in part[4]])
                self.assertEqual([net.taker_of(name)], [part[1] for part in parts if name in part[3]])
            self.assertEqual(net.gives(), [part[1] for part in parts if part[0] == "give"])
            self.assertEqual(net.takes(), [part[1] for part in parts if part[0] == "take"])
            odd = [part[1] for part in parts if part[0] in ("choose", "split")]
            self.assertEqual(net.odd(), odd[0] if odd else None)

    def test_names_that_are_not_there(self):
        questions = [(self.net.room_of, "t"), (self.net.first_of, "t"), (self.net.giver_of, "t"),
                     (self.net.taker_of, "t"), (self.net.part_of, "a")]
        for ask, other in questions:
            for name in (other, "z", "", "A", "a ", "no name at all", None, 0, True, ["a"]):
                with self.subTest(f"{ask.__name__} of {name!r}"):
                    with self.assertRaises(LaneError) as taken:
                        ask(name)
                    self.assertIs(type(taken.exception), NoSuch)
                    self.assertIs(taken.exception.name, name)


class Unchanging(unittest.TestCase):
    def test_what_was_handed_in_and_changed_later(self):
        lanes = [(name, room, list(first)) for name, room, first in LANES]
        parts = [(kind, name, list(numbers), list(ins), list(outs)) for kind, name, numbers, ins, outs in PARTS]
        net = Net(lanes, parts)
        told = net.told()
        for lane in lanes:
            lane[2].append(9)
        for part in parts:
            for row in part[2:]:
                row.append("z")
                row[0] = "y"
        lanes.clear()
        parts.pop()
        self.assertEqual(net.told(), told)
        self.assertEqual(net.first_of("a"), [5, 0])
        self.assertEqual(net.part_of("t").numbers, (3, 1))

    def test_what_is_handed_in_stays_as_it_was(self):
        for lanes, parts in ((LANES, PARTS), (LANES, PARTS[:4]), (LANES[:3] + [("d", 0, [])], PARTS)):
            before = repr((lanes, parts))
            try:
                Net(lanes, parts)
            except errors.LaneError:
                pass
            self.assertEqual(repr((lanes, parts)), before)

    def test_what_is_told_and_changed_later(self):
        net = Net(LANES, PARTS)
        told = repr(net.told())
        for ask in (net.lane_names, net.part_names, net.gives, net.takes, lambda: net.first_of("a")):
            before = list(ask())
            ask().append("z")
            ask().clear()
            self.assertEqual(ask(), before)
        net.told()[0].clear()
        net.told()[1].append("z")
        self.assertEqual(repr(net.told()), told)

    def test_two_nets_have_nothing_in_common(self):
        one, other = Net(LANES, PARTS), Net(LANES, PARTS)
        self.assertEqual(one.told(), other.told())
        one.lane_names().clear()
        one.told()[0].clear()
        self.assertEqual(other.lane_names(), ["a", "b", "c", "d"])
        self.assertIsNot(one.part_of("t"), other.part_of("t"))


if __name__ == "__main__":
    unittest.main()
