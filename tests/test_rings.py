"""Promise 72, and 2 and 4 of ranks and rings: which of the two a net has, and what they tell of its runs."""

import random
import unittest

from drawn import CALM, arcs_by_told, circle_parts, drawn_circle, drawn_held, drawn_line, drawn_nets, drawn_rows, long_rows
from holdlane.errors import LaneError, NotCalm
from holdlane.nets import Net
from holdlane.nettext import read_net
from holdlane.rings import ranks_or_ring
from holdlane.runs import Run
from holdlane.words import is_whole

LINE = "lane a 2 5 0\nlane b 1\ngive d : > a\nturn t 3 1 : a > b\ntake e : b >"
CROSSED = "lane a 2\nlane b 1{}\nlane c 1{}\nlane x 1\ngive g : > a\ncopy k : a > b c\nadd s : b c > x\ntake t : x >"


def has_ring(told):
    """Whether some part can be reached from itself over arcs without tokens."""
    names = [part[1] for part in told[1]]
    bare = [arc for arc in arcs_by_told(told) if arc[2] == 0]
    reached = {name: {arc[1] for arc in bare if arc[0] == name} for name in names}
    for middle in names:
        for name in names:
            if middle in reached[name]:
                reached[name] |= reached[middle]
    return any(name in reached[name] for name in names)


class Checks(unittest.TestCase):
    def ranks_right(self, net, ranks):
        self.assertIs(type(ranks), dict)
        self.assertEqual(sorted(ranks), sorted(net.part_names()))
        self.assertTrue(all(is_whole(rank) and 0 <= rank <= 15 for rank in ranks.values()))
        for start, end, tokens, lane, way in arcs_by_told(net.told()):
            if tokens == 0:
                self.assertLess(ranks[start], ranks[end])

    def ring_right(self, net, ring):
        self.assertIs(type(ring), list)
        self.assertGreater(len(ring), 0)
        arcs = arcs_by_told(net.told())
        for place, arc in enumerate(ring):
            self.assertIn(arc, arcs)
            self.assertIs(type(arc), tuple)
            self.assertEqual(arc[2], 0)
            self.assertEqual(arc[0], ring[place - 1][1])

    def right(self, net):
        told = ranks_or_ring(net)
        self.assertIs(type(told), tuple)
        self.assertEqual(len(told), 2)
        self.assertEqual(told[0], "ring" if has_ring(net.told()) else "ranks")
        if told[0] == "ranks":
            self.ranks_right(net, told[1])
        else:
            self.ring_right(net, told[1])
        return told


class RanksOrRing(Checks):
    def test_a_line(self):
        self.assertEqual(self.right(read_net(LINE))[0], "ranks")
        self.assertEqual(self.right(read_net("lane a 1\ngive g : > a\ntake t : a >"))[0], "ranks")

    def test_sixteen_parts_in_a_row(self):
        for full in ([], [1]):
            lanes = [(f"l{place}", 1, full) for place in range(15)]
            parts = [("give", "p0", [], [], ["l0"])]
            parts += [("pass", f"p{place}", [], [f"l{place - 1}"], [f"l{place}"]) for place in range(1, 15)]
            parts += [("take", "p15", [], ["l14"], [])]
            for order in (parts, parts[::-1], parts[8:] + parts[:8]):
                kind, ranks = self.right(Net(lanes, order))
                # Each part but one has an arc without tokens to it from the next one, so no other ranks are right.
                self.assertEqual(kind, "ranks")
                self.assertEqual([ranks[f"p{place}"] for place in range(16)], list(range(16))[::-1 if full else 1])

    def test_a_row_of_full_and_empty_lanes(self):
        for number in range(200):
            net = drawn_line(random.Random(number))
            self.assertEqual(self.right(net)[0], "ranks")

    def test_a_ring_of_one_part_alone(self):
        for row, way in (("lane a 3", "along"), ("lane a 1", "along"), ("lane a 1 7", "against"), ("lane a 3 7 7 7", "against")):
            net = read_net(row + "\nheap h 2 : a > a")
            self.assertEqual(self.right(net), ("ring", [("h", "h", 0, "a", way)]))
        for row in ("lane a 2 7", "lane a 3 7", "lane a 199 7"):
            net = read_net(row + "\nheap h 2 : a > a")
            kind, ranks = self.right(net)
            self.assertEqual((kind, list(ranks)), ("ranks", ["h"]))

    def test_empty_rings_and_full_rings(self):
        for many in range(1, 17):
            parts = circle_parts(many)
            for first, way in (([], "along"), ([1, 1], "against")):
                lanes = [(f"l{place}", 2, first) for place in range(many)]
                kind, ring = self.right(Net(lanes, parts))
                self.assertEqual(kind, "ring")
                self.assertEqual(len(ring), many)
                self.assertEqual({arc[4] for arc in ring}, {way})
                for place in range(many):
                    other = lanes[:place] + [(f"l{place}", 2, [1])] + lanes[place + 1:]
                    self.assertEqual(self.right(Net(other, parts))[0], "ranks")

    def test_two_lanes_between_the_same_two_parts(self):
        for b, c, kind in (("", "", "ranks"), (" 1", " 1", "ranks"), (" 1", "", "ring"), ("", " 1", "ring")):
            told = self.right(read_net(CROSSED.format(b, c)))
            self.assertEqual(told[0], kind)
            if kind == "ring":
                self.assertEqual(sorted(arc[4] for arc in told[1]), ["against", "along"])
        for b, c in (("1", "2 1"), ("2 1", "1")):
            text = CROSSED.format("", "").replace("lane b 1", f"lane b {b}").replace("lane c 1", f"lane c {c}")
            self.assertEqual(self.right(read_net(text))[0], "ranks")

    def test_parts_that_are_bound_by_a_ring_but_not_in_it(self):
        text = "lane a 1\nlane b 1\nlane c 1\nlane d 1\nlane l 1\n{}"
        rows = ["give g : > a", "add s : a l > b", "copy k : b > l c", "pass p : c > d", "take t : d >"]
        for turned in range(5):
            kind, ring = self.right(read_net(text.format("\n".join(rows[turned:] + rows[:turned]))))
            self.assertEqual(kind, "ring")
            self.assertEqual(sorted(arc[:2] for arc in ring), [("k", "s"), ("s", "k")])

    def test_drawn_nets(self):
        kinds = [self.right(net)[0] for source, net, rows in drawn_nets(720, 400, CALM)]
        self.assertGreater(min(kinds.count("ranks"), kinds.count("ring")), 100)

    def test_drawn_circles(self):
        kinds = [self.right(drawn_circle(random.Random(number)))[0] for number in range(400)]
        self.assertGreater(min(kinds.count("ranks"), kinds.count("ring")), 50)

    def test_the_same_question_gives_an_equal_answer(self):
        for source, net, rows in drawn_nets(721, 40, CALM):
            told = net.told()
            self.assertEqual(ranks_or_ring(net), ranks_or_ring(net))
            self.assertEqual(ranks_or_ring(Net(told[0], told[1])), ranks_or_ring(net))
            self.assertEqual(net.told(), told)

    def test_what_was_told_and_changed(self):
        for text in (LINE, CROSSED.format(" 1", "")):
            net = read_net(text)
            told = ranks_or_ring(net)
            ranks_or_ring(net)[1].clear()
            self.assertEqual(ranks_or_ring(net), told)
            self.right(net)

    def test_not_calm(self):
        many = 0
        for source, net, rows in drawn_nets(722, 60):
            odd = [part[1] for part in net.told()[1] if part[0] in ("choose", "split")]
            if not odd:
                continue
            many += 1
            with self.assertRaises(LaneError) as taken:
                ranks_or_ring(net)
            self.assertIs(type(taken.exception), NotCalm)
            self.assertEqual(taken.exception.name, odd[0])
        self.assertGreater(many, 20)

    def test_not_calm_goes_ahead_of_a_ring(self):
        net = read_net("lane a 1\nlane b 1\nlane c 1\nlane d 1\ncopy k : a > b c\nsplit s : b c > a d\ntake t : d >")
        with self.assertRaises(NotCalm) as taken:
            ranks_or_ring(net)
        self.assertEqual(taken.exception.name, "s")


class Running(Checks):
    def test_no_part_of_a_ring_ever_works(self):
        rings = 0
        for source, net, rows in drawn_nets(723, 250, CALM):
            kind, ring = ranks_or_ring(net)
            if kind == "ranks":
                continue
            rings += 1
            for rows, turns in ((long_rows(source, net, 30), [None] * 30),
                                (drawn_rows(source, net), [drawn_held(source, net) for turn in range(20)])):
                run = Run(net, rows)
                for held in turns:
                    run.step(held)
                self.assertEqual([run.works(arc[0]) for arc in ring], [0] * len(ring))
        self.assertGreater(rings, 50)

    def first_turns(self, net, ranks, rows, turns):
        run = Run(net, rows)
        first = {}
        for turn in range(turns):
            for name in run.step():
                first.setdefault(name, turn)
        for name in net.part_names():
            self.assertLessEqual(first[name], ranks[name])

    def test_each_part_works_for_the_first_time_no_later_than_its_rank_tells(self):
        nets = [(source, net) for source, net, rows in drawn_nets(724, 150, CALM)]
        nets += [(random.Random(number), drawn_circle(random.Random(number))) for number in range(60)]
        nets += [(random.Random(number), drawn_line(random.Random(number))) for number in range(60)]
        many = 0
        for source, net in nets:
            kind, ranks = ranks_or_ring(net)
            if kind == "ranks":
                many += 1
                self.first_turns(net, ranks, long_rows(source, net, 16), 16)
        self.assertGreater(many, 100)

    def test_with_ranks_some_part_works_at_each_turn_with_open_doors(self):
        open_turns = 0
        for source, net, rows in drawn_nets(725, 200, CALM):
            if ranks_or_ring(net)[0] == "ring":
                continue
            run = Run(net, long_rows(source, net, 40))
            for turn in range(40):
                held = drawn_held(source, net) if source.randrange(2) else []
                worked = run.step(held)
                if not held:
                    open_turns += 1
                    self.assertNotEqual(worked, [])
        self.assertGreater(open_turns, 1000)

    def test_a_net_amid_a_run_has_ranks_as_it_had_ahead_of_it(self):
        for source, net, rows in drawn_nets(726, 100, CALM):
            run = Run(net, rows)
            for turn in range(source.randrange(1, 15)):
                run.step(drawn_held(source, net))
            self.assertEqual(self.right(run.net_now())[0], ranks_or_ring(net)[0])


if __name__ == "__main__":
    unittest.main()
