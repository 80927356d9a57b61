"""Promises 73 to 75, and 2 and 4 of shares: the share with its paper, and the fewest and the most."""

import copy
import math
import unittest
from fractions import Fraction

from drawn import arcs_by_told, circle_parts, drawn_calm, drawn_held, drawn_nets, drawn_rows, is_ring, least_mean
from drawn import long_rows, ring_share, tokens_between
from holdlane.errors import BadWord, LaneError, NoSuch, NotCalm
from holdlane.nets import Net
from holdlane.nettext import read_net
from holdlane.runs import Run
from holdlane.shares import limits, share
from holdlane.words import is_whole

LINE = "lane a 2 5 0\nlane b {}\ngive d : > a\nturn t 3 1 : a > b\ntake e : b >"
PAIR = "lane a {}\ngive g : > a\ntake t : a >"
CROSSED = "lane a 2\nlane b {}\nlane c {}\nlane x 2\ngive g : > a\ncopy k : a > b c\nadd s : b c > x\ntake t : x >"


def circle(rooms, firsts):
    lanes = [(f"l{place}", room, [1] * first) for place, (room, first) in enumerate(zip(rooms, firsts))]
    return Net(lanes, circle_parts(len(rooms)))


def spread(total, many, most):
    """So many values in so many lanes, the first ones full."""
    return [max(0, min(most, total - place * most)) for place in range(many)]


def rings_of(arcs, way):
    """All ways that come back to where they began and to no other part twice, with those begun ahead of it."""
    for arc in arcs:
        if arc[0] != way[-1][1] or arc[0] == way[0][0]:
            continue
        if arc[1] == way[0][0]:
            yield way + [arc]
        elif arc[1] not in [step[0] for step in way]:
            yield from rings_of(arcs, way + [arc])


def least_of_all_rings(arcs):
    rings = [[arc] for arc in arcs if arc[0] == arc[1]]
    for arc in arcs:
        if arc[0] != arc[1]:
            rings += rings_of(arcs, [arc])
    return min(ring_share(ring) for ring in rings)


class Checks(unittest.TestCase):
    def paper_right(self, net, paper):
        self.assertIs(type(paper), tuple)
        top, bottom, ring, times, ahead = paper
        arcs = arcs_by_told(net.told())
        self.assertTrue(is_whole(top) and is_whole(bottom))
        self.assertEqual((top, bottom), least_mean(arcs).as_integer_ratio())
        self.assertTrue(is_ring(ring, arcs))
        self.assertLessEqual(len(ring), 16)
        self.assertEqual(ring_share(ring), Fraction(top, bottom))
        self.times_right(net, arcs, paper)
        between = tokens_between(arcs)
        self.assertIs(type(ahead), dict)
        self.assertTrue(all(is_whole(tokens) for tokens in ahead.values()))
        self.assertEqual(ahead, {name: between[ring[0][0], name] for name in net.part_names()})

    def times_right(self, net, arcs, paper):
        top, bottom, ring, times, ahead = paper
        self.assertIs(type(times), dict)
        self.assertEqual(sorted(times), sorted(net.part_names()))
        self.assertTrue(all(is_whole(time) and time >= 0 for time in times.values()))
        for start, end, tokens, lane, way in arcs:
            self.assertGreaterEqual(times[end], times[start] + top - bottom * tokens)

    def told(self, net):
        paper = share(net)
        self.paper_right(net, paper)
        return paper[:2]


class Share(Checks):
    def test_a_line(self):
        self.assertEqual(self.told(read_net(LINE.format(1))), (1, 2))
        self.assertEqual(self.told(read_net(LINE.format(2))), (1, 1))

    def test_one_where_nothing_is_slower(self):
        full = " ".join(["5"] * 199)
        for lane in ("2", "2 1", "2 1 1", "3", "3 1 1 1", "199", "199 1", f"199 {full}", f"199 {full[:-2]}"):
            paper = share(read_net(PAIR.format(lane)))
            self.assertEqual(self.told(read_net(PAIR.format(lane))), (1, 1))
            self.assertEqual(limits(paper, "g", 0), (0, 0))

    def test_a_lane_of_room_1_lets_a_value_by_at_every_second_turn(self):
        for lane in ("1", "1 7"):
            self.assertEqual(self.told(read_net(PAIR.format(lane))), (1, 2))

    def test_a_lane_from_a_part_to_itself(self):
        for lane, told in (("1", (0, 1)), ("1 4", (0, 1)), ("2", (0, 1)), ("2 4", (1, 1)), ("2 4 4", (0, 1)), ("199", (0, 1)),
                           ("3 4 4", (1, 1)), ("199 4", (1, 1))):
            net = read_net(f"lane a {lane}\nheap h 2 : a > a")
            self.assertEqual(self.told(net), told)
            self.assertEqual(len(share(net)[2]), 1)

    def test_a_part_with_a_lane_to_itself_among_others(self):
        text = "lane i 9\nlane l {}\nlane o 9\ngive g : > i\norder s : i l > o l\ntake t : o >"
        for lane, told in (("2", (0, 1)), ("2 1", (1, 1)), ("1 1", (0, 1))):
            self.assertEqual(self.told(read_net(text.format(lane))), told)

    def test_two_lanes_between_the_same_two_parts(self):
        for b, c, told in (("2", "2", (1, 1)), ("1", "2", (1, 2)), ("2 1", "2 1", (1, 1)), ("1 1", "1", (0, 1)),
                           ("1", "1 1", (0, 1)), ("2 1", "2", (1, 2)), ("3 1", "3", (1, 1)), ("3 1 1", "3", (1, 2)),
                           ("3 1 1 1", "3", (0, 1)), ("199 1", "2", (1, 1)), ("2", "199 1 1", (1, 1)), ("2 1 1", "199", (0, 1))):
            self.assertEqual(self.told(read_net(CROSSED.format(b, c))), told)

    def test_circles_of_every_length(self):
        for many in range(1, 17):
            for total in range(0, 2 * many + 1):
                for most in (2, 3, 199):
                    net = circle([most] * many, spread(total, many, min(most, 3)))
                    free = most * many - total
                    self.assertEqual(Fraction(*self.told(net)), min(Fraction(1), Fraction(total, many), Fraction(free, many)))

    def test_a_ring_of_sixteen_arcs(self):
        for total in (1, 3, 5, 7):
            net = circle([199] * 16, [total] + [0] * 15)
            self.assertEqual(self.told(net), (total, 16))
            self.assertEqual(len(share(net)[2]), 16)

    def test_the_least_tokens_are_told_from_the_beginning_of_the_rings_first_arc(self):
        for many in range(2, 17):
            paper = share(circle([9] * many, [1] + [0] * (many - 1)))
            self.assertEqual(paper[:2], (1, many))
            self.assertEqual(paper[4][paper[2][0][0]], 0)
            self.assertEqual(sorted(paper[4].values())[0], 0)
            self.assertLessEqual(max(paper[4].values()), 1)

    def test_drawn_nets(self):
        told = [self.told(net) for source, net in drawn_calm(730, 60)]
        self.assertGreater(len(set(told)), 25)
        self.assertGreater(min(told.count((0, 1)), told.count((1, 1)), told.count((1, 2))), 30)

    def test_drawn_nets_by_all_their_rings(self):
        many = 0
        for source, net in drawn_calm(731, 25):
            arcs = arcs_by_told(net.told())
            if len(net.part_names()) <= 7:
                many += 1
                self.assertEqual(Fraction(*share(net)[:2]), least_of_all_rings(arcs))
        self.assertGreater(many, 30)

    def test_nets_amid_a_run_have_the_share_that_they_had(self):
        for source, net in drawn_calm(732, 10):
            run = Run(net, drawn_rows(source, net))
            for turn in range(source.randrange(1, 15)):
                run.step(drawn_held(source, net))
            self.assertEqual(self.told(run.net_now()), share(net)[:2])

    def test_the_net_stays_and_the_same_question_gives_an_equal_answer(self):
        for source, net in drawn_calm(733, 5):
            told = copy.deepcopy(net.told())
            paper = share(net)
            self.assertEqual(share(net), paper)
            self.assertEqual(share(Net(*told)), paper)
            self.assertEqual(net.told(), told)

    def test_what_was_told_and_changed(self):
        for source, net in drawn_calm(734, 5):
            paper = copy.deepcopy(share(net))
            for thing in share(net)[2:]:
                thing.clear()
            other = share(net)
            other[3][net.part_names()[0]] = 77
            other[4][net.part_names()[0]] = 77
            self.assertEqual(share(net), paper)

    def test_not_calm(self):
        many = 0
        for source, net, rows in drawn_nets(735, 80):
            odd = [part[1] for part in net.told()[1] if part[0] in ("choose", "split")]
            if odd:
                many += 1
                with self.assertRaises(LaneError) as taken:
                    share(net)
                self.assertIs(type(taken.exception), NotCalm)
                self.assertEqual(taken.exception.name, odd[0])
        self.assertGreater(many, 30)


def fewest_by_ceiling(top, bottom, time, turns):
    return max(0, math.ceil(Fraction(turns * top - time, bottom)))


def most_by_rounds(tokens, arcs, ahead, turns):
    return tokens * math.ceil(Fraction(turns, arcs)) + ahead if turns else 0


def arc(tokens, start="a", end="a"):
    return (start, end, tokens, "l", "along")


class Limits(Checks):
    def test_papers_told_by_share(self):
        for source, net in drawn_calm(740, 20):
            paper = share(net)
            top, bottom, ring, times, ahead = paper
            for name in net.part_names():
                for turns in (0, 1, 2, source.randrange(3, 299), 299, 300):
                    told = limits(paper, name, turns)
                    self.assertIs(type(told), tuple)
                    self.assertTrue(is_whole(told[0]) and is_whole(told[1]))
                    self.assertEqual(told[0], fewest_by_ceiling(top, bottom, times[name], turns))
                    self.assertEqual(told[1], most_by_rounds(sum(a[2] for a in ring), len(ring), ahead[name], turns))

    def test_a_paper_by_hand(self):
        paper = (2, 3, [arc(1, "a", "b"), arc(3, "b", "c"), arc(0, "c", "a")], {"a": 0, "b": 4, "c": 700}, {"a": 0, "b": 1, "c": 6})
        told = [limits(paper, "a", turns) for turns in range(8)]
        self.assertEqual(told, [(0, 0), (1, 4), (2, 4), (2, 4), (3, 8), (4, 8), (4, 8), (5, 12)])
        told = [limits(paper, "b", turns) for turns in range(8)]
        self.assertEqual(told, [(0, 0), (0, 5), (0, 5), (1, 5), (2, 9), (2, 9), (3, 9), (4, 13)])
        self.assertEqual(limits(paper, "a", 300), (200, 400))
        self.assertEqual(limits(paper, "c", 300), (0, 406))
        self.assertEqual(limits(paper, "c", 0), (0, 0))

    def test_a_time_that_is_greater_than_all_that_the_turns_bring(self):
        for time, turns, fewest in ((0, 1, 1), (1, 1, 1), (4, 1, 1), (5, 1, 0), (6, 1, 0), (9, 2, 1), (10, 2, 0), (11, 2, 0),
                                    (10 ** 6, 300, 0), (0, 0, 0), (1, 0, 0), (7, 0, 0)):
            paper = (5, 7, [arc(5)], {"a": time}, {"a": 0})
            self.assertEqual(limits(paper, "a", turns)[0], fewest)

    def test_many_papers_by_hand(self):
        for top, bottom in ((0, 1), (1, 1), (3, 7), (15, 16)):
            for many in (1, 2, 5, 16):
                for tokens in (0, 1, 9):
                    ring = [arc(tokens)] * many
                    for time in (0, 1, 30, 301, 5000):
                        paper = (top, bottom, ring, {"a": time, "b1": 0}, {"a": time % 7, "b1": 3})
                        for turns in (0, 1, 15, 16, 17, 299, 300):
                            told = limits(paper, "a", turns)
                            self.assertEqual(told, (fewest_by_ceiling(top, bottom, time, turns),
                                                    most_by_rounds(tokens * many, many, time % 7, turns)))

    def test_no_such_part(self):
        paper = share(read_net(LINE.format(1)))
        for part in ("x", "", "a", "D", None, 7, True, ["d"], ("d",)):
            for turns in (0, 5, 301, -1, None, "5", True):
                with self.assertRaises(LaneError) as taken:
                    limits(paper, part, turns)
                self.assertIs(type(taken.exception), NoSuch)
                self.assertEqual(taken.exception.name, part)

    def test_turns_out_of_bounds(self):
        paper = share(read_net(LINE.format(1)))
        for turns in (-1, 301, 10 ** 20, True, False, None, "5", "", [], (3,), 2.0):
            with self.assertRaises(LaneError) as taken:
                limits(paper, "d", turns)
            self.assertIs(type(taken.exception), BadWord)

    def test_the_paper_stays(self):
        for source, net in drawn_calm(741, 3):
            paper = share(net)
            then = copy.deepcopy(paper)
            for name in net.part_names():
                self.assertEqual(limits(paper, name, 20), limits(paper, name, 20))
            self.assertEqual(paper, then)


class Working(Checks):
    def bounded(self, net, run, turns):
        """Gives how often a part has worked just as often as the most tells."""
        paper, reached = share(net), 0
        for turn, held in enumerate(turns):
            for name in net.part_names():
                most = limits(paper, name, turn)[1]
                self.assertLessEqual(run.works(name), most)
                reached += turn > 0 and run.works(name) == most
            run.step(held)
        return reached

    def test_no_part_works_oftener_than_the_most_with_doors_held_back(self):
        reached = 0
        for source, net in drawn_calm(750, 25):
            reached += self.bounded(net, Run(net, drawn_rows(source, net)), [drawn_held(source, net) for turn in range(25)])
        self.assertGreater(reached, 100)

    def test_no_part_works_oftener_than_the_most_with_open_doors(self):
        reached = 0
        for source, net in drawn_calm(751, 25):
            reached += self.bounded(net, Run(net, long_rows(source, net, 40)), [None] * 40)
        self.assertGreater(reached, 1000)

    def test_no_part_works_fewer_times_than_the_fewest_with_open_doors(self):
        reached = 0
        for source, net in drawn_calm(752, 25):
            paper, turns = share(net), source.randrange(1, 50)
            run = Run(net, long_rows(source, net, turns))
            for turn in range(turns + 1):
                for name in net.part_names():
                    fewest = limits(paper, name, turn)[0]
                    self.assertGreaterEqual(run.works(name), fewest)
                    reached += fewest > 0 and run.works(name) == fewest
                run.step()
        self.assertGreater(reached, 1000)

    def test_three_hundred_turns(self):
        for source, net in drawn_calm(753, 2):
            paper = share(net)
            run = Run(net, long_rows(source, net, 300))
            for turn in range(300):
                run.step()
            for name in net.part_names():
                fewest, most = limits(paper, name, 300)
                self.assertLessEqual(fewest, run.works(name))
                self.assertLessEqual(run.works(name), most)


if __name__ == "__main__":
    unittest.main()
