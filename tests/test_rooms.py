"""Promises 81 to 83, and 2 of rooms: room added to lanes, and plans for a wished share."""

import copy
import unittest
from fractions import Fraction

from drawn import arcs_by_told, circle_parts, drawn_calm, drawn_nets, is_ring, least_mean, ring_share
from holdlane.errors import BadRoom, BadWord, LaneError, NoSuch, NotCalm, TooFast
from holdlane.nets import Net
from holdlane.nettext import read_net
from holdlane.rooms import plan, with_rooms
from holdlane.shares import share
from holdlane.words import is_whole

LINE = "lane a 2 5 0\nlane b 1\nlane c 199\ngive d : > a\nturn t 3 1 : a > b\nheap h 4 : b > c\ntake e : c >"
SPLIT = "lane a 9\nlane b 9\nlane c 1\nlane x 1\ngive g : > a\ngive h : > b\nsplit s : a b > c x\ntake e : c >\ntake f : x >"
PAIR = "lane a {}\ngive g : > a\ntake t : a >"


class Refusing(unittest.TestCase):
    def refused(self, kind, name, deed, *arguments):
        with self.assertRaises(LaneError) as taken:
            deed(*arguments)
        self.assertIs(type(taken.exception), kind)
        if name is not None:
            self.assertEqual(taken.exception.name, name)


class WithRooms(Refusing):
    def test_none_one_and_several_lanes(self):
        net = read_net(LINE)
        for more, rooms in (({}, [2, 1, 199]), ({"b": 1}, [2, 2, 199]), ({"a": 0}, [2, 1, 199]), ({"b": 4, "a": 3}, [5, 5, 199]),
                            ({"a": 197, "b": 198, "c": 0}, [199, 199, 199])):
            wider = with_rooms(net, more)
            self.assertIs(type(wider), Net)
            self.assertEqual([wider.room_of(lane) for lane in "abc"], rooms)

    def test_all_else_stays_as_it_is(self):
        for source, net, rows in drawn_nets(810, 100):
            lanes, parts = net.told()
            more = {name: source.randrange(200 - room) for name, room, first in lanes if source.randrange(2)}
            wider = with_rooms(net, more)
            told = ([(name, room + more.get(name, 0), first) for name, room, first in lanes], parts)
            self.assertEqual(wider.told(), told)
            self.assertEqual(net.told(), (lanes, parts))

    def test_the_dict_stays_and_may_change_later(self):
        net, more = read_net(LINE), {"b": 2, "a": 1}
        wider = with_rooms(net, more)
        self.assertEqual(list(more.items()), [("b", 2), ("a", 1)])
        more["b"] = 50
        more.clear()
        self.assertEqual([wider.room_of(lane) for lane in "abc"], [3, 3, 199])
        self.assertEqual([net.room_of(lane) for lane in "abc"], [2, 1, 199])

    def test_no_such_lane(self):
        net = read_net(LINE)
        for name in ("x", "", "d", "A", None, 7, True, ("a",)):
            self.refused(NoSuch, name, with_rooms, net, {name: 1})
            self.refused(NoSuch, name, with_rooms, net, {"a": 1, name: 1, "b": 1})
        self.refused(NoSuch, "y", with_rooms, net, {"a": 1, "y": 1, "x": 1})
        self.refused(NoSuch, "x", with_rooms, net, {"x": 1, "a": 1, "y": 1})

    def test_numbers_of_any_kind(self):
        net = read_net(LINE)
        for added in (-1, -200, True, False, None, "1", "", 1.0, [], [1], (1,), {}, 198 + 1, 10 ** 30):
            self.refused(BadRoom, "b", with_rooms, net, {"b": added})
            self.refused(BadRoom, "b", with_rooms, net, {"a": 1, "b": added, "c": 0})

    def test_room_is_never_taken_away(self):
        net = read_net(LINE)
        for added in (-1, -2, -198, -199, -10 ** 20):
            for lane in "abc":
                self.refused(BadRoom, lane, with_rooms, net, {lane: added})

    def test_up_to_199_and_beyond(self):
        net = read_net(LINE)
        for lane, most in (("a", 197), ("b", 198), ("c", 0)):
            self.assertEqual(with_rooms(net, {lane: most}).room_of(lane), 199)
            self.refused(BadRoom, lane, with_rooms, net, {lane: most + 1})

    def test_the_order_of_refusals(self):
        net = read_net(LINE)
        self.refused(NoSuch, "x", with_rooms, net, {"a": -1, "x": 1})
        self.refused(NoSuch, "x", with_rooms, net, {"x": -1, "a": 200})
        self.refused(BadRoom, "c", with_rooms, net, {"b": 1, "c": 1, "a": None})
        self.refused(BadRoom, "b", with_rooms, net, {"b": None, "c": 1})
        self.refused(BadRoom, "a", with_rooms, net, {"a": True, "c": 1})

    def test_what_is_refused_changes_nothing(self):
        net = read_net(LINE)
        told, more = net.told(), {"a": 5, "b": 200}
        self.refused(BadRoom, "b", with_rooms, net, more)
        self.assertEqual(net.told(), told)
        self.assertEqual(more, {"a": 5, "b": 200})


def fit(net):
    return max(len(first) for name, room, first in net.told()[0]) <= 150


def least_mean_along(net):
    """The least share of the rings along lanes, or 1 where none is less; by the ways from each part to itself."""
    arcs = [arc for arc in arcs_by_told(net.told()) if arc[4] == "along"]
    best = Fraction(1)
    for name in net.part_names():
        ways = {name: 0}
        for count in range(1, len(net.part_names()) + 1):
            then = {}
            for start, end, tokens, lane, way in arcs:
                if start in ways:
                    then[end] = min(then.get(end, 10 ** 9), ways[start] + tokens)
            ways = then
            best = min(best, Fraction(ways.get(name, count), count))
    return best


def drawn_wishes(source, net):
    """A wish by chance, one near the net's share, the share itself, not in lowest terms too, and the greatest one."""
    bottom = source.choice([1, 2, 3, 7, 12, 16, 17, 333, 1000])
    top, under = share(net)[:2]
    wishes = [(source.randrange(1, bottom + 1), bottom), (1, 1), (1, 1000), (999, 1000)]
    if top > 0:
        wishes += [(top, under), (top * 31, under * 31), (min(top * 60 + 1, under * 60), under * 60)]
    return wishes


class PlanChecks(Refusing):
    def right(self, net, top, bottom):
        told = plan(net, top, bottom)
        self.assertIs(type(told), tuple)
        more, reasons = told
        wish = Fraction(top, bottom)
        self.assertIs(type(more), dict)
        self.assertTrue(all(is_whole(added) and added >= 1 for added in more.values()))
        self.assertGreaterEqual(least_mean(arcs_by_told(with_rooms(net, more).told())), wish)
        if least_mean(arcs_by_told(net.told())) >= wish:
            self.assertEqual(told, ({}, []))
        self.assertIs(type(reasons), list)
        self.assertEqual([reason[0] for reason in reasons], [lane for lane in net.lane_names() if lane in more])
        for reason in reasons:
            self.reason_right(net, more, reason, wish)
        return more

    def reason_right(self, net, more, reason, wish):
        self.assertIs(type(reason), tuple)
        lane, ring = reason
        less = dict(more)
        less[lane] -= 1
        self.assertTrue(is_ring(ring, arcs_by_told(with_rooms(net, less).told())))
        self.assertLess(ring_share(ring), wish)

    def too_fast(self, net, top, bottom):
        with self.assertRaises(LaneError) as taken:
            plan(net, top, bottom)
        self.assertIs(type(taken.exception), TooFast)
        arcs = [arc for arc in arcs_by_told(net.told()) if arc[4] != "against"]
        ring = taken.exception.ring
        self.assertTrue(is_ring(ring, arcs))
        self.assertLess(ring_share(ring), Fraction(top, bottom))


class Plans(PlanChecks):
    def test_a_line(self):
        net = read_net(LINE)
        self.assertEqual(self.right(net, 1, 2), {})
        self.assertEqual(self.right(net, 501, 1000), {"b": 1})
        self.assertEqual(self.right(net, 1, 1), {"b": 1})
        self.assertEqual(self.right(net, 1000, 1000), {"b": 1})

    def test_a_lane_of_room_1(self):
        for lane in ("1", "1 7"):
            net = read_net(PAIR.format(lane))
            for top, bottom, more in ((1, 1000, {}), (1, 2, {}), (500, 1000, {}), (3, 5, {"a": 1}), (7, 7, {"a": 1})):
                self.assertEqual(self.right(net, top, bottom), more)

    def test_a_full_lane_from_a_part_to_itself(self):
        for lane, more in (("1 4", {"a": 1}), ("2 4", {}), ("2 4 4", {"a": 1}), ("150" + " 4" * 150, {"a": 1})):
            self.assertEqual(self.right(read_net(f"lane a {lane}\nheap h 2 : a > a"), 1, 1000), more)
        self.too_fast(read_net("lane a 2\nheap h 2 : a > a"), 1, 1000)

    def test_up_to_150_first_values(self):
        full = " 7" * 150
        self.assertEqual(self.right(read_net(PAIR.format(f"150{full}")), 1, 1), {})
        self.assertEqual(self.right(read_net(PAIR.format(f"199{full}")), 1, 1), {})
        for many in (2, 5, 16):
            net = Net([(f"l{place}", 150, [7] * 150) for place in range(many)], circle_parts(many))
            self.assertEqual(sum(self.right(net, 1, 1).values()), many)
            self.assertEqual(sum(self.right(net, 1, many).values()), 1)

    def test_a_way_that_is_long_beside_one_that_is_full_of_first_values(self):
        parts = [("give", "g", [], [], ["i"]), ("copy", "k", [], ["i"], ["a", "b0"]), ("add", "s", [], ["b12", "a"], ["o"]),
                 ("take", "t", [], ["o"], [])]
        parts += [("pass", f"p{place}", [], [f"b{place}"], [f"b{place + 1}"]) for place in range(12)]
        for first in (0, 1, 150):
            lanes = [("i", 2, []), ("o", 2, []), ("a", max(1, first), [3] * first)] + [(f"b{place}", 2, []) for place in range(13)]
            net = Net(lanes, parts)
            for top, bottom in ((1, 20), (1, 2), (13, 14), (1, 1)):
                self.assertLessEqual(self.right(net, top, bottom).get("a", 0), 14)

    def test_a_copy_whose_two_ways_meet_again(self):
        for many in range(1, 13):
            lanes = [("i", 2, []), ("o", 2, []), ("a", 1, [])] + [(f"b{place}", 2, []) for place in range(many + 1)]
            parts = [("give", "g", [], [], ["i"]), ("copy", "k", [], ["i"], ["a", "b0"]),
                     ("add", "s", [], ["a", f"b{many}"], ["o"]), ("take", "t", [], ["o"], [])]
            parts += [("pass", f"p{place}", [], [f"b{place}"], [f"b{place + 1}"]) for place in range(many)]
            net = Net(lanes, parts)
            self.assertEqual(self.right(net, 1, 1), {"a": many + 1})
            self.assertEqual(self.right(net, 1, many + 2), {})
            for top in range(2, many + 2):
                self.assertEqual(self.right(net, top, many + 2), {"a": top - 1})

    def test_several_lanes_must_have_more(self):
        lanes = [(f"l{place}", 1, []) for place in range(5)]
        parts = [("give", "p0", [], [], ["l0"]), ("take", "p5", [], ["l4"], [])]
        parts += [("pass", f"p{place}", [], [f"l{place - 1}"], [f"l{place}"]) for place in range(1, 5)]
        for order in (lanes, lanes[::-1], lanes[2:] + lanes[:2]):
            self.assertEqual(self.right(Net(order, parts), 2, 3), {f"l{place}": 1 for place in range(5)})

    def test_drawn_nets(self):
        added, many, fast = 0, 0, 0
        for source, net in drawn_calm(820, 30):
            if not fit(net):
                continue
            along = least_mean_along(net)
            for top, bottom in drawn_wishes(source, net):
                if along < Fraction(top, bottom):
                    fast += 1
                    self.too_fast(net, top, bottom)
                else:
                    more = self.right(net, top, bottom)
                    added += len(more) > 0
                    many += len(more) > 2
        self.assertGreater(min(added, many, fast), 50)

    def test_with_the_wish_that_the_net_has_already_nothing_is_added(self):
        for source, net in drawn_calm(821, 10):
            top, bottom = share(net)[:2]
            if fit(net) and top > 0:
                self.assertEqual(plan(net, top, bottom), ({}, []))
                self.assertEqual(plan(net, top * 10, bottom * 10), ({}, []))

    def test_the_net_stays_and_the_same_question_gives_an_equal_answer(self):
        for source, net in drawn_calm(822, 5):
            told = copy.deepcopy(net.told())
            if fit(net) and least_mean_along(net) == 1:
                planned = copy.deepcopy(plan(net, 9, 10))
                other = plan(net, 9, 10)
                for reason in other[1]:
                    reason[1].clear()
                other[0].clear()
                other[1].clear()
                self.assertEqual(plan(net, 9, 10), planned)
                self.assertEqual(net.told(), told)


class PlansRefused(PlanChecks):
    def test_wishes_of_no_right_form(self):
        for net in (read_net(LINE), read_net(SPLIT), read_net("lane a 2\nheap h 2 : a > a")):
            for top, bottom in ((0, 1), (0, 0), (1, 0), (2, 1), (5, 4), (1001, 1000), (1, 1001), (1001, 1001), (-1, 2), (-2, -1),
                                (1, -1), (True, 2), (1, True), (True, True), (False, 1), (None, 1), (1, None), ("1", 2),
                                (1, "2"), ("", ""), (1.0, 2), (1, 2.0), ([1], 2), (1, (2,)), (10 ** 30, 10 ** 30)):
                self.refused(BadWord, None, plan, net, top, bottom)

    def test_not_calm_with_the_first_choose_or_split(self):
        self.refused(NotCalm, "s", plan, read_net(SPLIT), 1, 1)
        many = 0
        for source, net, rows in drawn_nets(830, 80):
            odd = [part[1] for part in net.told()[1] if part[0] in ("choose", "split")]
            if odd:
                many += 1
                self.refused(NotCalm, odd[0], plan, net, 1, source.randrange(1, 1001))
        self.assertGreater(many, 30)

    def test_not_calm_goes_ahead_of_a_ring_that_is_too_slow(self):
        net = read_net("lane a 1\nlane b 1\nlane c 1\nlane d 1\ncopy k : a > b c\nsplit s : b c > a d\ntake t : d >")
        self.refused(NotCalm, "s", plan, net, 1, 1)

    def test_too_fast(self):
        for many in range(1, 17):
            for total in range(many):
                lanes = [(f"l{place}", 20, [1] * (total if place == 0 else 0)) for place in range(many)]
                net = Net(lanes, circle_parts(many))
                self.too_fast(net, 1, 1)
                self.too_fast(net, total * 60 + 1, many * 60)
                if total > 0:
                    self.right(net, total, many)

    def test_too_fast_beside_doors(self):
        text = "lane i 9\nlane l {}\nlane o 9\ngive g : > i\norder s : i l > o l\ntake t : o >"
        self.too_fast(read_net(text.format("2")), 1, 1000)
        self.assertEqual(self.right(read_net(text.format("1 3")), 1, 1), {"l": 1})

    def test_the_ring_of_the_refusal_is_the_askers_own(self):
        net = read_net("lane a 2\nheap h 2 : a > a")
        for count in range(2):
            with self.assertRaises(TooFast) as taken:
                plan(net, 1, 2)
            self.assertEqual(taken.exception.ring, [("h", "h", 0, "a", "along")])
            taken.exception.ring.clear()


if __name__ == "__main__":
    unittest.main()
