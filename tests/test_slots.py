"""Promises 84 to 87, and 2 of slots: slots put into lanes, and stages that work ahead of the first turn."""

import copy
import unittest

from drawn import COUNTS, STAGES, drawn_calm, drawn_nets, streams
from holdlane.errors import BadName, Doubled, Full, IsDoor, Lacks, LaneError, NoSuch, TooMany
from holdlane.nets import Net
from holdlane.nettext import read_net, show_net
from holdlane.plain import plain_rows
from holdlane.shares import share
from holdlane.slots import with_slot, worked_ahead

LINE = "lane a 2 5 0\nlane b 1\ngive d : > a\nturn t 3 1 : a > b\ntake e : b >"
ADD = "lane a 3 1 2\nlane b 1 7\nlane x 2\ngive g : > a\ngive h : > b\nadd s : a b > x\ntake e : x >"
NO_NAMES = ["", "A", "9a", "ninesigns", "a b", "a\n", " a", "\u00e4", None, True, False, 7, 0, [], ["a"], ("a",), {}, 2.5, b"a"]


class Refusing(unittest.TestCase):
    def refused(self, kind, field, deed, net, *arguments):
        told = copy.deepcopy(net.told())
        with self.assertRaises(LaneError) as taken:
            deed(net, *arguments)
        self.assertIs(type(taken.exception), kind)
        if kind is not TooMany:
            self.assertEqual(getattr(taken.exception, "lane" if kind in (Lacks, Full) else "name"), field)
        self.assertEqual(net.told(), told)


def slotted(told, lane, slot, fresh):
    """What the net with a slot is to tell, by the words of the promise."""
    lanes, parts = told
    old = [row for row in lanes if row[0] == lane][0]
    then = [(name, room, () if name == lane else first) for name, room, first in lanes] + [(fresh, old[1], old[2])]
    rows = []
    for kind, name, numbers, ins, outs in parts:
        place = ins.index(lane) if lane in ins else len(ins)
        rows.append((kind, name, numbers, ins[:place] + ((fresh,) + ins[place + 1:] if lane in ins else ()), outs))
    return then, rows + [("pass", slot, (), (lane,), (fresh,))]


class WithSlot(Refusing):
    def right(self, net, lane, slot="zz", fresh="zz"):
        told = copy.deepcopy(net.told())
        then = with_slot(net, lane, slot, fresh)
        self.assertIs(type(then), Net)
        self.assertEqual(then.told(), slotted(told, lane, slot, fresh))
        self.assertEqual(net.told(), told)
        return show_net(then)

    def test_with_and_without_first_values(self):
        net = read_net(LINE)
        self.assertEqual(self.right(net, "a", "s", "f"), "lane a 2\nlane b 1\nlane f 2 5 0\ngive d : > a\nturn t 3 1 : f > b\n"
                         "take e : b >\npass s : a > f")
        self.assertEqual(self.right(net, "b", "s", "f"), "lane a 2 5 0\nlane b 1\nlane f 1\ngive d : > a\nturn t 3 1 : a > b\n"
                         "take e : f >\npass s : b > f")

    def test_one_of_two_lanes_of_the_same_taker(self):
        net = read_net(ADD)
        self.assertIn("add s : f b > x", self.right(net, "a", "z", "f"))
        self.assertIn("add s : a f > x", self.right(net, "b", "z", "f"))

    def test_each_lane_of_a_choose_and_a_split(self):
        for kind, ins, outs in (("choose", "abc", "x"), ("split", "ab", "xy")):
            lanes = [(lane, 2, [1]) for lane in ins + outs]
            parts = [("give", f"g{lane}", [], [], [lane]) for lane in ins] + [(kind, "s", [], list(ins), list(outs))]
            parts += [("take", f"t{lane}", [], [lane], []) for lane in outs]
            for lane in ins + outs:
                self.right(Net(lanes, parts), lane)

    def test_a_lane_from_a_part_to_itself(self):
        for row in ("lane a 1", "lane a 1 4", "lane a 3 4 5"):
            net = read_net(row + "\nheap h 2 : a > a")
            first = row[len("lane a 1"):]
            self.assertEqual(self.right(net, "a", "s", "f"), f"lane a {row[7]}\nlane f {row[7]}{first}\nheap h 2 : f > a\npass s : a > f")

    def test_the_greatest_room(self):
        net = read_net("lane a 199" + " 3" * 199 + "\ngive g : > a\ntake t : a >")
        self.right(net, "a")

    def test_names_of_lanes_and_names_of_parts_are_apart(self):
        net = read_net(LINE)
        self.right(net, "a", "a", "d")
        self.right(net, "a", "b", "t")
        self.right(net, "b", "same", "same")
        self.right(net, "b", "eightsig", "e")

    def test_drawn_nets(self):
        many = 0
        for source, net, rows in drawn_nets(840, 150):
            if len(net.part_names()) < 16 and len(net.lane_names()) < 24:
                for lane in net.lane_names():
                    self.right(net, lane)
                    many += 1
        self.assertGreater(many, 500)

    def test_no_such_lane_goes_ahead_of_all(self):
        net = read_net(LINE)
        for lane in ["d", "t", "x"] + NO_NAMES:
            self.refused(NoSuch, lane, with_slot, net, lane, "s", "f")
            self.refused(NoSuch, lane, with_slot, net, lane, "", "")
            self.refused(NoSuch, lane, with_slot, net, lane, "t", "a")

    def test_names_that_are_none(self):
        net = read_net(LINE)
        for name in NO_NAMES:
            self.refused(BadName, name, with_slot, net, "a", name, "f")
            self.refused(BadName, name, with_slot, net, "a", "s", name)
            self.refused(BadName, name, with_slot, net, "a", name, "a")

    def test_names_that_are_there_already(self):
        net = read_net(LINE)
        for name in ("d", "t", "e"):
            self.refused(Doubled, name, with_slot, net, "a", name, "f")
            self.refused(Doubled, name, with_slot, net, "a", name, "A")
            self.refused(Doubled, name, with_slot, net, "a", name, "a")
        for name in ("a", "b"):
            self.refused(Doubled, name, with_slot, net, "a", "s", name)
        self.refused(BadName, "A", with_slot, net, "a", "A", "B")

    def test_slots_until_there_are_sixteen_parts(self):
        net = read_net(LINE)
        for count in range(13):
            net = with_slot(net, f"f{count - 1}" if count % 3 else "a", f"s{count}", f"f{count}")
        self.assertEqual((len(net.part_names()), len(net.lane_names())), (16, 15))
        self.too_many(net)

    def test_slots_until_there_are_twenty_four_lanes(self):
        lanes = [(f"l{place}", 1, []) for place in range(22)]
        parts = [("order", f"p{place}", [], [f"l{2 * place}", f"l{2 * place + 1}"],
                  [f"l{(2 * place + 2) % 22}", f"l{(2 * place + 3) % 22}"]) for place in range(11)]
        net = with_slot(with_slot(Net(lanes, parts), "l0", "s", "f"), "l1", "t", "g")
        self.assertEqual((len(net.part_names()), len(net.lane_names())), (13, 24))
        self.too_many(net)

    def too_many(self, net):
        lane, part = net.lane_names()[0], net.part_names()[0]
        self.refused(TooMany, None, with_slot, net, lane, "z", "z")
        self.refused(NoSuch, "z", with_slot, net, "z", "z", "z")
        self.refused(BadName, "Z", with_slot, net, lane, "Z", "z")
        self.refused(Doubled, part, with_slot, net, lane, part, "z")
        self.refused(BadName, 5, with_slot, net, lane, "z", 5)
        self.refused(Doubled, lane, with_slot, net, lane, "z", lane)


class PlainNets(Refusing):
    def test_rows_of_the_plain_net_with_a_slot(self):
        many = 0
        for source, net, rows in drawn_nets(850, 200):
            if len(net.part_names()) == 16 or len(net.lane_names()) == 24:
                continue
            lane = source.choice(net.lane_names())
            # Of a net without doors the rows may go on for ever, so that a bound of workings would cut them off.
            if not settled(net, rows, 60):
                continue
            old = plain_rows(net, rows, 60)
            then = dict(old)
            then["fresh"] = old[lane]
            then[lane] = old[lane][len(net.first_of(lane)):]
            slot = with_slot(net, lane, "fresh", "fresh")
            many += 1
            self.assertEqual(plain_rows(slot, rows, 300), then)
            self.assertEqual(streams(slot.told(), rows, 300), then)
        self.assertGreater(many, 100)

    def test_rows_that_go_on_for_ever(self):
        for source, net, rows in drawn_nets(851, 150):
            if len(net.part_names()) < 16 and len(net.lane_names()) < 24:
                lane = source.choice(net.lane_names())
                old, slot = plain_rows(net, rows, 40), plain_rows(with_slot(net, lane, "fresh", "fresh"), rows, 80)
                for name in net.lane_names():
                    gone = len(net.first_of(lane)) if name == lane else 0
                    self.begins(old[name][gone:], slot[name])
                self.begins(old[lane], slot["fresh"])

    def begins(self, one, other):
        self.assertEqual(other[:len(one)], one)

    def test_rows_of_the_plain_net_with_work_ahead(self):
        worked = 0
        for source, net, rows in drawn_nets(870, 200):
            ends, old = settled(net, rows, 60), plain_rows(net, rows, 60)
            for part in net.part_names():
                ahead = ahead_or_none(net, part)
                if ahead is None:
                    continue
                worked += 1
                then = plain_rows(ahead, rows, 60)
                for lane in net.lane_names():
                    left = old[lane][1:] if was_taken(net, part, lane) else old[lane]
                    self.begins(left, then[lane])
                    if ends:
                        self.assertEqual(left, then[lane])
        self.assertGreater(worked, 100)

    def test_the_share_stays(self):
        worked = 0
        for source, net in drawn_calm(871, 40):
            for part in net.part_names():
                ahead = ahead_or_none(net, part)
                if ahead is not None:
                    worked += 1
                    self.assertEqual(share(ahead)[:2], share(net)[:2])
        self.assertGreater(worked, 200)


def was_taken(net, part, lane):
    kind, ins = net.part_of(part).kind(), net.part_of(part).ins
    return lane in ins and (kind != "choose" or lane in (ins[0], ins[1 + net.first_of(ins[0])[0] % 2]))


def settled(net, rows, most):
    """Whether no part works as often as it may, so that the rows end by themselves."""
    told = streams(net.told(), rows, most - 1)
    return told == streams(net.told(), rows, most)


def ahead_or_none(net, part):
    try:
        return worked_ahead(net, part)
    except (IsDoor, Lacks, Full):
        return None


def stage_net(kind, numbers, heads, counts=None):
    """A net of one stage with doors round it, its lanes in with these first values, its lanes out with so many."""
    ins, outs = [f"i{place}" for place in range(COUNTS[kind][1])], [f"o{place}" for place in range(COUNTS[kind][2])]
    counts = counts or [0] * len(outs)
    lanes = [(lane, max(1, len(first)), first) for lane, first in zip(ins, heads)]
    lanes += [(lane, 2, [8] * count) for lane, count in zip(outs, counts)]
    parts = [("give", f"g{lane}", [], [], [lane]) for lane in ins] + [(kind, "s", numbers, ins, outs)]
    return Net(lanes, parts + [("take", f"t{lane}", [], [lane], []) for lane in outs])


def firsts(net, letter):
    return [net.first_of(lane) for lane in net.lane_names() if lane[0] == letter]


class WorkedAhead(Refusing):
    def test_each_kind_of_stage(self):
        cases = [
            ("pass", [], [[5, 6]], [[6]], [[5]]), ("copy", [], [[5, 6]], [[6]], [[5], [5]]),
            ("turn", [3, 1], [[5]], [[]], [[16]]), ("turn", [10 ** 9 - 1, 2], [[3]], [[]], [[10 ** 9 - 1]]),
            ("heap", [7], [[5, 1]], [[1]], [[12]]), ("add", [], [[5, 6], [10 ** 9 - 1]], [[6], []], [[4]]),
            ("less", [], [[5], [6]], [[], []], [[1]]), ("less", [], [[6], [6]], [[], []], [[0]]),
            ("order", [], [[9], [6, 2]], [[], [2]], [[6], [9]]),
            ("choose", [], [[4, 1], [6], [7]], [[1], [], [7]], [[6]]), ("choose", [], [[3], [6], [7, 2]], [[], [6], [2]], [[7]]),
            ("choose", [], [[3], [], [7]], [[], [], []], [[7]]), ("choose", [], [[2], [7], []], [[], [], []], [[7]]),
            ("split", [], [[4], [6]], [[], []], [[6], []]), ("split", [], [[1, 1], [6, 5]], [[1], [5]], [[], [6]]),
        ]
        self.assertEqual({case[0] for case in cases}, set(STAGES))
        for kind, numbers, heads, left, given in cases:
            net = stage_net(kind, numbers, heads)
            told = net.told()
            then = worked_ahead(net, "s")
            self.assertIs(type(then), Net)
            self.assertEqual((firsts(then, "i"), firsts(then, "o")), (left, given))
            self.assertEqual(net.told(), told)
            self.assertEqual([row[:2] for row in then.told()[0]], [row[:2] for row in told[0]])
            if kind != "heap":
                self.assertEqual(then.told()[1], told[1])

    def test_what_is_given_is_put_behind_the_first_values(self):
        then = worked_ahead(stage_net("copy", [], [[5]], [1, 0]), "s")
        self.assertEqual(firsts(then, "o"), [[8, 5], [5]])

    def test_a_heap_begins_with_what_it_remembers_then(self):
        net = stage_net("heap", [10 ** 9 - 2], [[5, 1]])
        then = worked_ahead(net, "s")
        self.assertEqual((then.part_of("s").numbers, then.part_of("s").start()), ((3,), 3))
        self.assertEqual(firsts(worked_ahead(then, "s"), "o"), [[3, 4]])
        self.assertEqual(worked_ahead(then, "s").part_of("s").numbers, (4,))
        self.assertEqual(net.part_of("s").numbers, (10 ** 9 - 2,))
        self.assertEqual([part for part in then.told()[1] if part[0] != "heap"], [part for part in net.told()[1] if part[0] != "heap"])

    def test_a_lane_from_a_stage_to_itself(self):
        for row, then in (("lane a 2 4", "lane a 2 6\nheap h 6 : a > a"), ("lane a 3 4 9", "lane a 3 9 6\nheap h 6 : a > a")):
            self.assertEqual(show_net(worked_ahead(read_net(row + "\nheap h 2 : a > a"), "h")), then)
        for row in ("lane a 1 4", "lane a 3 4 5 6"):
            self.refused(Full, "a", worked_ahead, read_net(row + "\nheap h 2 : a > a"), "h")
        self.refused(Lacks, "a", worked_ahead, read_net("lane a 1\nheap h 2 : a > a"), "h")

    def test_no_such_part(self):
        net = read_net(LINE)
        for part in ["a", "b", "x"] + NO_NAMES:
            self.refused(NoSuch, part, worked_ahead, net, part)

    def test_doors(self):
        for door in ("d", "e"):
            self.refused(IsDoor, door, worked_ahead, read_net(LINE), door)
        for lane in ("lane a 1", "lane a 1 4"):
            for door in "gt":
                self.refused(IsDoor, door, worked_ahead, read_net(lane + "\ngive g : > a\ntake t : a >"), door)

    def test_the_first_lane_whose_value_is_lacking(self):
        for kind in STAGES:
            many = COUNTS[kind][1]
            numbers = [3] * COUNTS[kind][0]
            for lacking in range(many):
                heads = [[] if place >= lacking else [1] for place in range(many)]
                place = 2 if kind == "choose" and lacking == 1 else lacking
                self.refused(Lacks, f"i{place}", worked_ahead, stage_net(kind, numbers, heads), "s")
        self.refused(Lacks, "i1", worked_ahead, stage_net("choose", [], [[0], [], [5]]), "s")
        self.refused(Lacks, "i2", worked_ahead, stage_net("choose", [], [[1], [5], []]), "s")
        self.refused(Lacks, "i0", worked_ahead, stage_net("add", [], [[], [5]]), "s")

    def test_the_first_lane_that_is_full(self):
        for kind in ("copy", "order"):
            heads = [[5]] * COUNTS[kind][1]
            for counts, lane in (([2, 2], "o0"), ([2, 1], "o0"), ([1, 2], "o1"), ([0, 2], "o1")):
                self.refused(Full, lane, worked_ahead, stage_net(kind, [], heads, counts), "s")
        for kind in ("pass", "turn", "heap", "add", "less", "choose"):
            heads = [[5]] * COUNTS[kind][1]
            self.refused(Full, "o0", worked_ahead, stage_net(kind, [3] * COUNTS[kind][0], heads, [2]), "s")
            worked_ahead(stage_net(kind, [3] * COUNTS[kind][0], heads, [1]), "s")

    def test_a_split_looks_at_one_lane_out(self):
        for c, counts, full in ((0, [2, 0], "o0"), (0, [2, 2], "o0"), (1, [0, 2], "o1"), (1, [2, 2], "o1")):
            self.refused(Full, full, worked_ahead, stage_net("split", [], [[c], [5]], counts), "s")
        self.assertEqual(firsts(worked_ahead(stage_net("split", [], [[0], [5]], [1, 2]), "s"), "o"), [[8, 5], [8, 8]])
        self.assertEqual(firsts(worked_ahead(stage_net("split", [], [[1], [5]], [2, 1]), "s"), "o"), [[8, 8], [8, 5]])

    def test_lacking_goes_ahead_of_being_full(self):
        self.refused(Lacks, "i0", worked_ahead, stage_net("pass", [], [[]], [2]), "s")
        self.refused(Lacks, "i1", worked_ahead, stage_net("order", [], [[3], []], [2, 2]), "s")

    def test_drawn_nets_stay(self):
        kinds = []
        for source, net, rows in drawn_nets(860, 100):
            told = copy.deepcopy(net.told())
            for part in net.part_names():
                try:
                    worked_ahead(net, part)
                    kinds.append("worked")
                except LaneError as refusal:
                    kinds.append(type(refusal))
            self.assertEqual(net.told(), told)
        self.assertEqual(set(kinds), {"worked", IsDoor, Lacks, Full})


if __name__ == "__main__":
    unittest.main()
