"""Promises 61 to 64, and 2 and 4 of waits: who waits for whom, rings of waits, and runs that have stopped."""

import copy
import unittest

from drawn import Model, drawn_held, drawn_nets, drawn_rows, run_state
from holdlane.nettext import read_net
from holdlane.runs import Run
from holdlane.waits import leads_to, ring_of_waits, stopped, waits_of

LINE = "lane a 2 5 0\nlane b 1\ngive d : > a\nturn t 3 1 : a > b\ntake e : b >"
CHOOSE = ("lane a 3{}\nlane b 3{}\nlane c 3{}\nlane x 3{}\ngive g : > a\ngive h : > b\ngive i : > c\nchoose s : a b c > x\n"
          "take e : x >")
TWO_IN = "lane a 3{}\nlane b 3{}\nlane x 3{}\ngive g : > a\ngive h : > b\n{} s : a b > x\ntake e : x >"
TWO_OUT = "lane a 1{}\nlane b 1{}\nlane c 1{}\ngive g : > a\ncopy s : a > {}\ntake e : b >\ntake f : c >"
BOTH = ("lane a 1{}\nlane b 1{}\nlane c 1{}\nlane x 1{}\ngive g : > a\ngive h : > b\n{} s : a b > {}\ntake e : c >\n"
        "take f : x >")
LOOP = "lane l {}\nlane a 2{}\nlane b 2{}\ngive g : > a\norder o : a l > {}\ntake t : b >"
# The copy gives to b and c, the add wants both: with b full and c empty each waits for the other one.
CROSSED = "lane a 2{}\nlane b 1 4\nlane c 1\nlane x 1\ngive g : > a\ncopy k : a > b c\nadd s : b c > x\ntake t : x >"
CROSSED_WAITS = [("k", "b", "room"), ("s", "c", "value")]
# Two such pairs, k with s and q with u, and a part m that waits for both.
TWO_RINGS = "\n".join([
    "lane a 2 1", "lane b 1 4", "lane c 1", "lane x 1", "lane i 2 1", "lane d 1 4", "lane e 1", "lane z 2", "lane y 1",
    "give g : > a", "copy k : a > b c", "add s : b c > x", "give h : > i", "copy q : i > d e", "add u : d e > z",
    "add m : x z > y", "take t : y >",
])


def made(text, rows=None):
    return Run(read_net(text), {} if rows is None else rows)


def wait_for(run, name):
    found = [wait for wait in waits_of(run) if wait[0] == name]
    return found[0][1:] if found else None


def steps(run, many):
    for turn in range(many):
        run.step()
    return run


def with_parts(text, names):
    """The same net with its parts in another order."""
    rows = text.split("\n")
    parts = {row.split(" ")[1]: row for row in rows if not row.startswith("lane")}
    return "\n".join([row for row in rows if row.startswith("lane")] + [parts[name] for name in names.split(" ")])


def ring_by_orbits(net, waits):
    """The ring that the ways of waits come to, told by going on for more steps than there are parts."""
    of = {wait[0]: wait for wait in waits}
    order = net.part_names()
    ends = {"value": net.giver_of, "room": net.taker_of}
    leads = {part: None if what == "end" else ends[what](lane) for part, lane, what in waits}
    for at in order:
        for step in range(len(order)):
            at = leads.get(at)
        orbit = [at]
        while leads.get(orbit[-1]) not in (None, at):
            orbit.append(leads[orbit[-1]])
        if leads.get(orbit[-1]) == at and at is not None:
            place = min(range(len(orbit)), key=lambda place: order.index(orbit[place]))
            return [of[part] for part in orbit[place:] + orbit[:place]]
    return []


class Waits(unittest.TestCase):
    def test_a_line_at_its_beginning_amid_it_and_at_its_end(self):
        run = made(LINE, {"d": [7, 8]})
        told = [[("d", "a", "room"), ("e", "b", "value")], [("t", "b", "room")], [("d", "a", "room"), ("e", "b", "value")],
                [("t", "b", "room")], [("d", "", "end"), ("e", "b", "value")], [("d", "", "end"), ("t", "b", "room")],
                [("d", "", "end"), ("e", "b", "value")], [("d", "", "end"), ("t", "a", "value")]]
        for turn, waits in enumerate(told):
            with self.subTest(turn):
                self.assertEqual(waits_of(run), waits)
                run.step()
        for turn in range(3):
            self.assertEqual(waits_of(run), [("d", "", "end"), ("t", "a", "value"), ("e", "b", "value")])
            run.step()

    def test_the_order_of_the_net(self):
        for names in ("d t e", "e d t", "t e d", "e t d"):
            run = made(with_parts(LINE, names))
            self.assertEqual([wait[0] for wait in waits_of(steps(run, 9))], names.split(" "))

    def test_nobody_waits(self):
        self.assertEqual(waits_of(made("lane a 2 1\nlane b 2 1\ngive g : > a\npass p : a > b\ntake t : b >", {"g": [1]})), [])

    def test_a_value_of_one_lane(self):
        for kind in ("pass", "turn 3 1", "heap 7"):
            word, numbers = kind.partition(" ")[::2]
            row = " ".join(f"{word} s {numbers} : a > b".split())
            text = "lane a 1{}\nlane b 1{}\ngive g : > a\n" + row + "\ntake e : b >"
            self.assertEqual(wait_for(made(text.format("", "")), "s"), ("a", "value"))
            self.assertEqual(wait_for(made(text.format("", " 1")), "s"), ("a", "value"))
            self.assertEqual(wait_for(made(text.format(" 1", " 1")), "s"), ("b", "room"))
            self.assertIsNone(wait_for(made(text.format(" 1", "")), "s"))

    def test_the_first_of_two_lanes_that_is_lacking(self):
        for kind in ("add", "less"):
            for a, b, x, wait in (("", "", "", ("a", "value")), ("", " 1", "", ("a", "value")),
                                  (" 1", "", "", ("b", "value")), ("", "", " 1 2 3", ("a", "value")),
                                  (" 1", "", " 1 2 3", ("b", "value")), (" 1", " 1", " 1 2 3", ("x", "room")),
                                  (" 1", " 1", " 1 2", None)):
                with self.subTest((kind, a, b, x)):
                    self.assertEqual(wait_for(made(TWO_IN.format(a, b, x, kind)), "s"), wait)

    def test_the_order_of_the_lanes_in_counts(self):
        text = TWO_IN.format("", "", "", "add").replace(": a b >", ": b a >")
        self.assertEqual(wait_for(made(text), "s"), ("b", "value"))

    def test_a_choose(self):
        for a, b, c, x, wait in (("", "", "", "", ("a", "value")), ("", " 1", " 1", "", ("a", "value")),
                                 (" 2", "", "", "", ("b", "value")), (" 2", "", " 1", "", ("b", "value")),
                                 (" 3", "", "", "", ("c", "value")), (" 3", " 1", "", "", ("c", "value")),
                                 (" 2", " 1", "", "", None), (" 3", "", " 1", "", None),
                                 (" 2", " 1", "", " 1 2 3", ("x", "room")), (" 3", "", " 1", " 1 2 3", ("x", "room")),
                                 (" 3", " 1", "", " 1 2 3", ("c", "value")), ("", "", "", " 1 2 3", ("a", "value"))):
            with self.subTest((a, b, c, x)):
                self.assertEqual(wait_for(made(CHOOSE.format(a, b, c, x)), "s"), wait)

    def test_a_give_door(self):
        text = "lane a 2{}\nlane b 1\ngive g : > a\npass p : a > b\ntake t : b >"
        for first, rows, wait in (("", {}, ("", "end")), ("", {"g": []}, ("", "end")), (" 1 2", {}, ("", "end")),
                                  (" 1 2", {"g": []}, ("", "end")), (" 1 2", {"g": [3]}, ("a", "room")),
                                  (" 1", {"g": [3]}, None), ("", {"g": [0]}, None)):
            with self.subTest((first, rows)):
                self.assertEqual(wait_for(made(text.format(first), rows), "g"), wait)

    def test_a_give_door_whose_row_comes_to_its_end(self):
        run = made("lane a 2\nlane b 1\ngive g : > a\npass p : a > b\ntake t : b >", {"g": [1, 2, 3]})
        told = []
        for turn in range(8):
            told.append(wait_for(run, "g"))
            run.step(["t"])
        self.assertEqual(told, [None, None, None, ("", "end"), ("", "end"), ("", "end"), ("", "end"), ("", "end")])
        run = made("lane a 2\nlane b 1\ngive g : > a\npass p : a > b\ntake t : b >", {"g": [1, 2, 3, 4]})
        told = []
        for turn in range(5):
            told.append(wait_for(run, "g"))
            run.step(["t"])
        self.assertEqual(told, [None, None, None, ("a", "room"), ("a", "room")])

    def test_a_take_door(self):
        self.assertEqual(wait_for(made(LINE), "e"), ("b", "value"))
        self.assertIsNone(wait_for(made(LINE.replace("lane b 1", "lane b 1 0")), "e"))

    def test_the_first_full_lane_of_a_copy(self):
        for outs in ("b c", "c b"):
            for b, c, lanes in (("", "", ""), (" 1", "", "b"), ("", " 1", "c"), (" 1", " 1", "bc")):
                first = [lane for lane in outs.split(" ") if lane in lanes]
                with self.subTest((outs, b, c)):
                    self.assertEqual(wait_for(made(TWO_OUT.format(" 1", b, c, outs)), "s"),
                                     (first[0], "room") if first else None)
                    self.assertEqual(wait_for(made(TWO_OUT.format("", b, c, outs)), "s"), ("a", "value"))

    def test_the_first_full_lane_of_an_order(self):
        for outs in ("c x", "x c"):
            for c, x, lanes in (("", "", ""), (" 1", "", "c"), ("", " 1", "x"), (" 1", " 1", "cx")):
                first = [lane for lane in outs.split(" ") if lane in lanes]
                for a, b in ((" 1", " 2"), (" 2", " 1"), (" 1", " 1")):
                    with self.subTest((outs, c, x, a, b)):
                        self.assertEqual(wait_for(made(BOTH.format(a, b, c, x, "order", outs)), "s"),
                                         (first[0], "room") if first else None)
                self.assertEqual(wait_for(made(BOTH.format(" 1", "", c, x, "order", outs)), "s"), ("b", "value"))
                self.assertEqual(wait_for(made(BOTH.format("", "", c, x, "order", outs)), "s"), ("a", "value"))

    def test_a_split_waits_for_room_in_the_lane_that_it_chooses_alone(self):
        for a, c, x, wait in ((" 0", "", " 1", None), (" 1", " 1", "", None), (" 0", " 1", "", ("c", "room")),
                              (" 1", "", " 1", ("x", "room")), (" 0", " 1", " 1", ("c", "room")),
                              (" 1", " 1", " 1", ("x", "room")), ("", " 1", " 1", ("a", "value")),
                              (" 4", "", "", None), (" 5", "", "", None)):
            with self.subTest((a, c, x)):
                self.assertEqual(wait_for(made(BOTH.format(a, " 0", c, x, "split", "c x")), "s"), wait)
                if a:
                    self.assertEqual(wait_for(made(BOTH.format(a, "", c, x, "split", "c x")), "s"), ("b", "value"))

    def test_doors_that_were_held_back_make_no_difference(self):
        held = ["d", "e"]
        run = made(LINE, {"d": [7, 8]})
        self.assertEqual(run.step(held), ["t"])
        for turn in range(3):
            self.assertEqual(waits_of(run), [("t", "b", "room")])
            self.assertEqual(run.step(held), [])

    def test_who_waits_is_who_does_not_work_with_open_doors(self):
        for source, net, rows in drawn_nets(610, 60):
            run = Run(net, rows)
            for turn in range(15):
                waiting = [wait[0] for wait in waits_of(run)]
                self.assertEqual(waiting, [name for name in net.part_names() if not run.can_work(name)])
                worked = Run(run.net_now(), run.rows_left()).step()
                self.assertEqual([name for name in net.part_names() if name not in worked], waiting)
                run.step(drawn_held(source, net))

    def test_drawn_nets(self):
        many = {"value": 0, "end": 0, "room": 0}
        for source, net, rows in drawn_nets(611, 200):
            model, run = Model(net.told(), rows), Run(net, rows)
            for turn in range(20):
                waits = waits_of(run)
                self.assertEqual(waits, model.waits())
                self.assertTrue(all(type(wait) is tuple for wait in waits))
                for wait in waits:
                    many[wait[2]] += 1
                held = drawn_held(source, net)
                self.assertEqual(run.step(held), model.step(held))
        self.assertGreater(min(many.values()), 1000)


class Asking(unittest.TestCase):
    def test_asking_changes_nothing(self):
        for source, net, rows in drawn_nets(612, 40):
            run, other, told = Run(net, rows), Run(net, rows), net.told()
            for turn in range(12):
                before = copy.deepcopy(run_state(run, net))
                answers = (waits_of(run), ring_of_waits(run), stopped(run))
                self.assertEqual((waits_of(run), ring_of_waits(run), stopped(run)), answers)
                self.assertEqual(run_state(run, net), before)
                held = drawn_held(source, net)
                self.assertEqual(run.step(held), other.step(held))
            self.assertEqual(net.told(), told)

    def test_lists_that_were_told_and_changed(self):
        net = read_net(CROSSED.format(" 1"))
        run = Run(net, {"g": [1, 2]})
        for turn in range(4):
            before, waits, ring = run_state(run, net), waits_of(run), ring_of_waits(run)
            for ask in (waits_of, ring_of_waits):
                ask(run).append(("g", "a", "value"))
                ask(run).reverse()
                ask(run).clear()
            self.assertEqual((waits_of(run), ring_of_waits(run)), (waits, ring))
            self.assertEqual(run_state(run, net), before)
            run.step()


class Leading(unittest.TestCase):
    def test_to_which_part_a_wait_leads(self):
        net = read_net(LINE)
        for wait, part in ((("t", "a", "value"), "d"), (("e", "b", "value"), "t"), (("d", "a", "room"), "t"),
                           (("t", "b", "room"), "e"), (("d", "", "end"), None)):
            with self.subTest(wait):
                self.assertEqual(leads_to(net, wait), part)
                self.assertEqual(wait, tuple(wait))

    def test_names_of_lanes_and_parts_are_apart(self):
        net = read_net("lane e 2 5\nlane d 1\ngive d : > e\npass a : e > d\ntake e : d >")
        for wait, part in ((("d", "e", "room"), "a"), (("a", "e", "value"), "d"), (("a", "d", "room"), "e"),
                           (("e", "d", "value"), "a"), (("d", "", "end"), None)):
            self.assertEqual(leads_to(net, wait), part)

    def test_a_part_that_waits_for_itself(self):
        for outs in ("l b", "b l"):
            for room, wait in (("1", ("o", "l", "value")), ("1 5", ("o", "l", "room")), ("3", ("o", "l", "value")),
                               ("2 5 6", ("o", "l", "room"))):
                run = made(LOOP.format(room, " 1", "", outs), {"g": [1]})
                self.assertEqual(waits_of(run)[0], wait)
                self.assertEqual(leads_to(read_net(LOOP.format(room, " 1", "", outs)), wait), "o")
                self.assertEqual(ring_of_waits(run), [wait])

    def test_a_net_of_one_part_alone(self):
        for text, wait in (("lane a 1 1", ("t", "a", "room")), ("lane a 2", ("t", "a", "value")),
                           ("lane a 2 1 2", ("t", "a", "room"))):
            run = made(text + "\nturn t 2 1 : a > a")
            self.assertEqual((waits_of(run), ring_of_waits(run), stopped(run)), ([wait], [wait], True))
        run = made("lane a 2 1\nturn t 2 1 : a > a")
        self.assertEqual((waits_of(run), ring_of_waits(run), stopped(run)), ([], [], False))


class Rings(unittest.TestCase):
    def test_a_ring_of_two(self):
        run = made(CROSSED.format(" 1"), {"g": [1, 2]})
        self.assertEqual(ring_of_waits(run), CROSSED_WAITS)
        for turn in range(4):
            run.step()
            self.assertEqual(ring_of_waits(run), CROSSED_WAITS)

    def test_a_ring_begins_with_that_of_its_parts_which_comes_first(self):
        for names in ("g k s t", "k s t g", "s k g t", "t s g k", "t g k s", "t k s g", "g s k t"):
            ring = ring_of_waits(made(with_parts(CROSSED.format(" 1"), names)))
            first = 0 if names.index("k") < names.index("s") else 1
            self.assertEqual(ring, CROSSED_WAITS[first:] + CROSSED_WAITS[:first])

    def test_one_comes_to_the_ring_from_a_part_that_is_not_in_it(self):
        run = made(with_parts(CROSSED.format(" 1 2"), "t g k s"), {"g": [3]})
        self.assertEqual(waits_of(run), [("t", "x", "value"), ("g", "a", "room")] + CROSSED_WAITS)
        self.assertEqual(ring_of_waits(run), CROSSED_WAITS)

    def test_the_first_part_can_work_or_comes_to_the_end_of_a_row(self):
        for rows in ({"g": [3]}, {}):
            self.assertEqual(ring_of_waits(made(CROSSED.format(" 1"), rows)), CROSSED_WAITS)

    def test_a_ring_of_full_lanes_and_one_of_empty_lanes(self):
        parts = "\npass p : a > b\npass q : b > c\npass r : c > a"
        run = made("lane a 1\nlane b 2\nlane c 3" + parts)
        self.assertEqual(ring_of_waits(run), [("p", "a", "value"), ("r", "c", "value"), ("q", "b", "value")])
        run = made("lane a 1 1\nlane b 2 1 1\nlane c 3 1 1 1" + parts)
        self.assertEqual(ring_of_waits(run), [("p", "b", "room"), ("q", "c", "room"), ("r", "a", "room")])
        run = made("lane a 1 1\nlane b 2 1 1\nlane c 3 1 1" + parts)
        self.assertEqual(ring_of_waits(run), [])

    def test_of_two_rings_the_one_to_which_one_comes_first(self):
        one, other = [("k", "b", "room"), ("s", "c", "value")], [("q", "d", "room"), ("u", "e", "value")]
        names = "g k s m t h q u"
        self.assertEqual(ring_of_waits(made(with_parts(TWO_RINGS, names))), one)
        for names, ring in (("q k s u g m t h", other), ("k q u s g m t h", one), ("m k q u s g t h", one),
                            ("t q u m k s g h", one), ("h g q u m k s t", other), ("h u q k s m t g", other[::-1])):
            with self.subTest(names):
                self.assertEqual(ring_of_waits(made(with_parts(TWO_RINGS, names))), ring)

    def test_a_part_may_come_to_a_ring_whose_parts_come_last(self):
        # The part m waits for z, which the second pair gives, since x has a value: the first pair comes ahead of it.
        text = TWO_RINGS.replace("lane x 1", "lane x 1 7")
        ring = ring_of_waits(made(with_parts(text, "m k s g t h u q")))
        self.assertEqual(ring, [("u", "e", "value"), ("q", "d", "room")])
        self.assertEqual(ring_of_waits(made(with_parts(text, "g k s m t h u q"))), CROSSED_WAITS)

    def test_no_ring(self):
        run = made(LINE, {"d": [7, 8]})
        for turn in range(12):
            self.assertEqual(ring_of_waits(run), [])
            run.step()
        self.assertEqual(ring_of_waits(made(LINE)), [])

    def test_several_ways_that_meet_are_no_ring(self):
        run = made(TWO_OUT.format("", "", "", "b c"))
        self.assertEqual(len(waits_of(run)), 4)
        self.assertEqual(ring_of_waits(run), [])

    def test_a_ring_that_comes_as_the_run_goes_on(self):
        run = made(CROSSED.format(""), {"g": [1]})
        self.assertEqual(waits_of(run), [("k", "a", "value"), ("s", "c", "value"), ("t", "x", "value")])
        self.assertEqual(ring_of_waits(run), [])
        run.step()
        self.assertEqual(ring_of_waits(run), CROSSED_WAITS)

    def test_a_ring_that_comes_by_values(self):
        # By even values the split fills d, and the choose wants one of e, to which odd ones alone lead.
        text = ("lane a 2\nlane b 2\nlane c 2\nlane v 2 7 8\nlane d 2\nlane e 2 9\nlane x 2\nlane y 2\n"
                "give g : > a\ncopy k : a > b c\ngive h : > v\nsplit s : b v > d y\npass p : y > e\n"
                "choose o : c e d > x\ntake t : x >")
        run = made(text, {"g": [0, 2, 4, 6], "h": [1, 2, 3]})
        rings = []
        for turn in range(30):
            rings.append(ring_of_waits(run))
            run.step()
        self.assertEqual(rings[0], [])
        self.assertEqual(rings[-1], [("s", "d", "room"), ("o", "e", "value"), ("p", "y", "value")])

    def test_drawn_nets(self):
        rings = []
        for source, net, rows in drawn_nets(630, 300):
            run = Run(net, rows)
            for turn in range(15):
                ring = ring_of_waits(run)
                self.assertEqual(ring, ring_by_orbits(net, waits_of(run)))
                run.step(drawn_held(source, net) if source.randrange(2) else None)
            rings.append(len(ring))
            for place, wait in enumerate(ring):
                self.assertEqual(leads_to(net, wait), ring[(place + 1) % len(ring)][0])
            self.assertEqual(len({wait[0] for wait in ring}), len(ring))
        self.assertTrue(all(rings.count(many) > 5 for many in (0, 1, 2, 3)))


class Stopping(unittest.TestCase):
    def test_stopped(self):
        run = made(LINE, {"d": [7, 8]})
        told = []
        for turn in range(10):
            told.append(stopped(run))
            run.step()
        self.assertEqual(told, [False] * 8 + [True] * 2)
        self.assertTrue(all(type(truth) is bool for truth in told))

    def test_a_run_whose_doors_are_all_held_back_has_not_stopped(self):
        run = made(LINE, {"d": [7, 8]})
        for turn in range(5):
            run.step(["d", "e"])
            self.assertIs(stopped(run), False)

    def test_a_ring_amid_a_run_that_has_not_stopped(self):
        run = made(CROSSED.format(" 1"), {"g": [1]})
        self.assertEqual((len(ring_of_waits(run)), stopped(run)), (2, False))
        run.step()
        self.assertEqual((len(ring_of_waits(run)), stopped(run)), (2, True))

    def test_drawn_nets(self):
        for source, net, rows in drawn_nets(640, 60):
            run = Run(net, rows)
            for turn in range(20):
                held = drawn_held(source, net)
                self.assertEqual(stopped(run), not any(run.can_work(name) for name in net.part_names()))
                run.step(held)

    def stays(self, source, net, run, ring, turns):
        for turn in range(turns):
            worked = run.step(drawn_held(source, net) if source.randrange(3) else None)
            waits = waits_of(run)
            for wait in ring:
                self.assertNotIn(wait[0], worked)
                self.assertIn(wait, waits)

    def test_a_part_of_a_ring_never_works_again(self):
        rings = 0
        for source, net, rows in drawn_nets(641, 250):
            run = Run(net, rows)
            seen = []
            for turn in range(15):
                ring = ring_of_waits(run)
                if ring and ring not in seen:
                    seen.append(ring)
                    rings += 1
                    more = drawn_rows(source, net)
                    longer = {door: left + more.get(door, [9]) for door, left in run.rows_left().items()}
                    self.stays(source, net, Run(run.net_now(), longer), ring, 15)
                    self.stays(source, net, Run(run.net_now(), run.rows_left()), ring, 5)
                worked = run.step(drawn_held(source, net))
                waits = waits_of(run)
                for wait in [wait for ring in seen for wait in ring]:
                    self.assertNotIn(wait[0], worked)
                    self.assertIn(wait, waits)
        self.assertGreater(rings, 100)

    def test_a_run_that_has_stopped_without_a_ring(self):
        still = 0
        for source, net, rows in drawn_nets(642, 300):
            run = Run(net, rows)
            for turn in range(60):
                run.step(drawn_held(source, net) if turn < 20 else None)
            if stopped(run) and not ring_of_waits(run):
                still += 1
                for name in net.part_names():
                    self.assertEqual(run.rows_left()[self.end_of(net, run, name)], [])
        self.assertGreater(still, 50)

    def end_of(self, net, run, name):
        waits = {wait[0]: wait for wait in waits_of(run)}
        for step in net.part_names():
            if waits[name][2] == "end":
                break
            name = leads_to(net, waits[name])
        self.assertEqual(waits[name], (name, "", "end"))
        return name

    def test_a_stopped_run_stays_stopped(self):
        for source, net, rows in drawn_nets(643, 60):
            run = Run(net, rows)
            for turn in range(40):
                before = stopped(run)
                worked = run.step(drawn_held(source, net))
                if before:
                    self.assertEqual(worked, [])
                    self.assertIs(stopped(run), True)


if __name__ == "__main__":
    unittest.main()
