"""Promise 71, and 2 of arcs: the arcs of a net, and how often a part may have worked by them."""

import unittest

from drawn import CALM, arcs_by_told, drawn_held, drawn_nets, long_rows
from holdlane.arcs import arcs_of
from holdlane.errors import LaneError, NotCalm
from holdlane.nettext import read_net
from holdlane.runs import Run
from holdlane.words import is_whole

EVERY_KIND = """lane a 3 1 2
lane b 1
lane c 2 5 6
lane d 199 0
lane e 4
lane f 2 3
lane i 1 9
lane j 5
lane m 2 1 1
lane n 1
lane o 7 4
lane q 3
lane x 3
give g : > a
copy k : a > b c
turn t 3 1 : b > d
heap h 8 : c > e
order r : d e > f i
add s : f i > j
pass p : j > m
give v : > n
less w : m n > o
copy l : o > q x
take z : q >
take y : x >"""
EVERY_ARC = [
    ("g", "k", 2, "a", "along"), ("k", "g", 1, "a", "against"), ("k", "t", 0, "b", "along"), ("t", "k", 1, "b", "against"),
    ("k", "h", 2, "c", "along"), ("h", "k", 0, "c", "against"), ("t", "r", 1, "d", "along"), ("r", "t", 198, "d", "against"),
    ("h", "r", 0, "e", "along"), ("r", "h", 4, "e", "against"), ("r", "s", 1, "f", "along"), ("s", "r", 1, "f", "against"),
    ("r", "s", 1, "i", "along"), ("s", "r", 0, "i", "against"), ("s", "p", 0, "j", "along"), ("p", "s", 5, "j", "against"),
    ("p", "w", 2, "m", "along"), ("w", "p", 0, "m", "against"), ("v", "w", 0, "n", "along"), ("w", "v", 1, "n", "against"),
    ("w", "l", 1, "o", "along"), ("l", "w", 6, "o", "against"), ("l", "z", 0, "q", "along"), ("z", "l", 3, "q", "against"),
    ("l", "y", 0, "x", "along"), ("y", "l", 3, "x", "against"),
    ("g", "g", 1, "", "again"), ("k", "k", 1, "", "again"), ("t", "t", 1, "", "again"), ("h", "h", 1, "", "again"),
    ("r", "r", 1, "", "again"), ("s", "s", 1, "", "again"), ("p", "p", 1, "", "again"), ("v", "v", 1, "", "again"),
    ("w", "w", 1, "", "again"), ("l", "l", 1, "", "again"), ("z", "z", 1, "", "again"), ("y", "y", 1, "", "again"),
]
CHOOSE = "lane a 3\nlane b 3\nlane c 3\nlane x 3\ngive g : > a\ngive h : > b\ngive i : > c\nchoose s : a b c > x\ntake e : x >"
SPLIT = "lane a 9\nlane b 9\nlane c 1\nlane x 1\ngive g : > a\ngive h : > b\nsplit s : a b > c x\ntake e : c >\ntake f : x >"


class Arcs(unittest.TestCase):
    def test_a_line(self):
        net = read_net("lane a 2 5 0\nlane b 1\ngive d : > a\nturn t 3 1 : a > b\ntake e : b >")
        self.assertEqual(arcs_of(net), [
            ("d", "t", 2, "a", "along"), ("t", "d", 0, "a", "against"), ("t", "e", 0, "b", "along"),
            ("e", "t", 1, "b", "against"), ("d", "d", 1, "", "again"), ("t", "t", 1, "", "again"), ("e", "e", 1, "", "again")])

    def test_every_calm_kind(self):
        net = read_net(EVERY_KIND)
        self.assertEqual({part[0] for part in net.told()[1]}, set(CALM) | {"give", "take"})
        self.assertEqual(arcs_of(net), EVERY_ARC)

    def test_the_order_is_that_of_the_net(self):
        net = read_net("lane b 1\nlane a 2 5 0\ntake e : b >\nturn t 3 1 : a > b\ngive d : > a")
        self.assertEqual([arc[3:] for arc in arcs_of(net)], [("b", "along"), ("b", "against"), ("a", "along"),
                                                             ("a", "against"), ("", "again"), ("", "again"), ("", "again")])
        self.assertEqual([arc[0] for arc in arcs_of(net)[4:]], ["e", "t", "d"])

    def test_a_lane_from_a_part_to_itself(self):
        for row, along, against in (("lane a 3", 0, 3), ("lane a 3 7", 1, 2), ("lane a 3 7 7 7", 3, 0), ("lane a 1", 0, 1)):
            net = read_net(row + "\nheap h 2 : a > a")
            self.assertEqual(arcs_of(net), [("h", "h", along, "a", "along"), ("h", "h", against, "a", "against"),
                                            ("h", "h", 1, "", "again")])

    def test_two_lanes_between_the_same_two_parts(self):
        net = read_net("lane a 3\nlane b 1 4\nlane c 2\nlane x 1\ngive g : > a\ncopy k : a > c b\nadd s : b c > x\ntake t : x >")
        self.assertEqual(arcs_of(net)[2:6], [("k", "s", 1, "b", "along"), ("s", "k", 0, "b", "against"),
                                             ("k", "s", 0, "c", "along"), ("s", "k", 2, "c", "against")])

    def test_two_lanes_that_lead_to_and_fro(self):
        net = read_net("lane a 3 1\nlane b 2\npass p : a > b\npass q : b > a")
        self.assertEqual(arcs_of(net), [("q", "p", 1, "a", "along"), ("p", "q", 2, "a", "against"), ("p", "q", 0, "b", "along"),
                                        ("q", "p", 2, "b", "against"), ("p", "p", 1, "", "again"), ("q", "q", 1, "", "again")])

    def test_the_greatest_room(self):
        full = " ".join(["5"] * 199)
        for row, along, against in (("lane a 199", 0, 199), (f"lane a 199 {full}", 199, 0)):
            net = read_net(row + "\ngive g : > a\ntake t : a >")
            self.assertEqual(arcs_of(net)[:2], [("g", "t", along, "a", "along"), ("t", "g", against, "a", "against")])

    def test_names_of_lanes_and_parts_are_apart(self):
        net = read_net("lane e 2 5\nlane d 1\ngive d : > e\npass a : e > d\ntake e : d >")
        self.assertEqual(arcs_of(net)[:4], [("d", "a", 1, "e", "along"), ("a", "d", 1, "e", "against"),
                                            ("a", "e", 0, "d", "along"), ("e", "a", 1, "d", "against")])

    def test_drawn_nets(self):
        for source, net, rows in drawn_nets(710, 200, CALM):
            arcs, told = arcs_of(net), net.told()
            self.assertEqual(arcs, arcs_by_told(told))
            self.assertTrue(all(type(arc) is tuple and is_whole(arc[2]) for arc in arcs))
            self.assertEqual(len(arcs), 2 * len(told[0]) + len(told[1]))
            self.assertEqual(net.told(), told)

    def test_a_net_amid_a_run(self):
        run = Run(read_net("lane a 2 5 0\nlane b 1\ngive d : > a\nturn t 3 1 : a > b\ntake e : b >"), {"d": [7]})
        run.step()
        self.assertEqual([arc[2] for arc in arcs_of(run.net_now())], [1, 1, 1, 0, 1, 1, 1])

    def test_lists_that_were_told_and_changed(self):
        net = read_net(EVERY_KIND)
        arcs_of(net).append(None)
        arcs_of(net).reverse()
        arcs_of(net).clear()
        self.assertEqual(arcs_of(net), EVERY_ARC)


class NotCalmNets(unittest.TestCase):
    def refused(self, net, name):
        with self.assertRaises(LaneError) as taken:
            arcs_of(net)
        self.assertIs(type(taken.exception), NotCalm)
        self.assertEqual(taken.exception.name, name)

    def test_a_choose_and_a_split(self):
        self.refused(read_net(CHOOSE), "s")
        self.refused(read_net(SPLIT), "s")

    def test_the_first_one_in_the_order_of_the_net(self):
        split, choose = "split s : a b > x c", "choose o : x i j > y"
        text = ("lane a 3\nlane b 3\nlane c 3\nlane x 3\nlane y 3\nlane i 3\nlane j 3\ngive g : > a\n{}\ngive h : > b\n"
                "copy k : c > i j\n{}\ntake e : y >")
        self.refused(read_net(text.format(split, choose)), "s")
        self.refused(read_net(text.format(choose, split)), "o")

    def test_drawn_nets(self):
        many = 0
        for source, net, rows in drawn_nets(711, 60):
            if net.odd() is not None:
                kinds = {part[1]: part[0] for part in net.told()[1]}
                self.refused(net, [name for name in kinds if kinds[name] in ("choose", "split")][0])
                many += 1
        self.assertGreater(many, 20)


class Bounds(unittest.TestCase):
    def holds(self, net, run, turns):
        """Gives how often the bound of an arc was come to."""
        arcs, names, reached = arcs_of(net), net.part_names(), 0
        for held in turns:
            before = {name: run.works(name) for name in names}
            run.step(held)
            for start, end, tokens, lane, way in arcs:
                self.assertLessEqual(run.works(end), before[start] + tokens)
                reached += run.works(end) == before[start] + tokens
        return reached

    def test_how_often_a_part_has_worked_with_doors_held_back(self):
        reached = 0
        for source, net, rows in drawn_nets(712, 150, CALM):
            reached += self.holds(net, Run(net, rows), [drawn_held(source, net) for turn in range(20)])
        self.assertGreater(reached, 1000)

    def test_how_often_a_part_has_worked_with_open_doors(self):
        reached = 0
        for source, net, rows in drawn_nets(713, 100, CALM):
            reached += self.holds(net, Run(net, long_rows(source, net, 30)), [None] * 30)
        self.assertGreater(reached, 1000)

    def test_the_bound_holds_from_the_net_as_it_stands_too(self):
        for source, net, rows in drawn_nets(714, 40, CALM):
            run = Run(net, long_rows(source, net, 40))
            for turn in range(source.randrange(10)):
                run.step(drawn_held(source, net))
            now = run.net_now()
            self.holds(now, Run(now, run.rows_left()), [drawn_held(source, net) for turn in range(15)])


if __name__ == "__main__":
    unittest.main()
