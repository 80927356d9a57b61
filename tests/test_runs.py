"""Promises 51 to 56, and 2, 3 and 4 of runs: turns, what a run tells, and what holds at every turn."""

import copy
import unittest

from drawn import Model, drawn_held, drawn_nets, drawn_rows, run_state
from holdlane.errors import BadRow, LaneError, NoSuch
from holdlane.nets import Net
from holdlane.nettext import read_net, show_net
from holdlane.plain import plain_rows
from holdlane.runs import Run
from holdlane.words import is_whole

TOP = 10 ** 9 - 1
LINE = "lane a 2 5 0\nlane b 1\ngive d : > a\nturn t 3 1 : a > b\ntake e : b >"
THIN = "lane a 1\nlane b 1\ngive g : > a\npass p : a > b\ntake t : b >"
CHOOSE = ("lane a 3\nlane b 3\nlane c 3\nlane x 3\ngive g : > a\ngive h : > b\ngive i : > c\nchoose s : a b c > x\n"
          "take e : x >")
SPLIT = "lane a 9\nlane b 9\nlane c 1\nlane x 1\ngive g : > a\ngive h : > b\nsplit s : a b > c x\ntake e : c >\ntake f : x >"


def made(text, rows):
    return Run(read_net(text), rows)


class Beginnings(unittest.TestCase):
    def test_a_run_that_has_done_no_turn(self):
        run = made(LINE, {"d": [7, 8]})
        self.assertEqual(run.turn(), 0)
        self.assertEqual((run.lane_now("a"), run.lane_now("b")), ([5, 0], []))
        self.assertEqual((run.had("a"), run.had("b")), ([5, 0], []))
        self.assertEqual([run.works(name) for name in ("d", "t", "e")], [0, 0, 0])
        self.assertEqual(run.taken("e"), [])
        self.assertEqual(run.rows_left(), {"d": [7, 8]})
        self.assertEqual(run.net_now().told(), read_net(LINE).told())
        self.assertEqual([run.can_work(name) for name in ("d", "t", "e")], [False, True, False])

    def test_a_door_without_a_row(self):
        run = made(THIN, {})
        self.assertEqual(run.rows_left(), {"g": []})
        self.assertIs(run.can_work("g"), False)
        self.assertEqual(run.step(), [])
        self.assertEqual(run.turn(), 1)

    def test_rows_are_refused(self):
        net = read_net(THIN)
        for key in ("t", "p", "a", "z", "", None, 0, True, ("g",)):
            with self.subTest(key):
                with self.assertRaises(LaneError) as taken:
                    Run(net, {"g": None, key: []})
                self.assertIs(type(taken.exception), NoSuch)
                self.assertIs(taken.exception.name, key)
        for row in ((1,), None, "1", 1, [0] * 301, [True], [None], [-1], [10 ** 9], ["1"], [[1]], {}):
            with self.subTest(row):
                with self.assertRaises(LaneError) as taken:
                    Run(net, {"g": row})
                self.assertIs(type(taken.exception), BadRow)
                self.assertEqual(taken.exception.name, "g")

    def test_rows_that_were_handed_in_and_changed_later(self):
        rows = {"g": [1, 2]}
        run = made(THIN, rows)
        rows["g"].append(3)
        rows["g"][0] = 9
        rows["z"] = None
        self.assertEqual(run.rows_left(), {"g": [1, 2]})
        run.step()
        self.assertEqual(run.lane_now("a"), [1])
        self.assertEqual(rows, {"g": [9, 2, 3], "z": None})

    def test_rows_that_were_handed_in_stay_as_they_were(self):
        for source, net, rows in drawn_nets(51, 20):
            before, told = copy.deepcopy(rows), net.told()
            run = Run(net, rows)
            for turn in range(8):
                run.step()
            self.assertEqual(rows, before)
            self.assertEqual(net.told(), told)


class Turns(unittest.TestCase):
    def goes(self, run, turns):
        for turn, (held, worked) in enumerate(turns):
            with self.subTest(f"turn {turn}"):
                self.assertEqual(run.step(held), worked)

    def test_a_line(self):
        run = made(LINE, {"d": [7, 8]})
        self.goes(run, [(None, ["t"]), (None, ["d", "e"]), (None, ["t"]), (None, ["d", "e"]), (None, ["t"]),
                        (None, ["e"]), (None, ["t"]), (None, ["e"]), (None, []), (None, [])])
        self.assertEqual(run.taken("e"), [16, 1, 22, 25])
        self.assertEqual((run.had("a"), run.had("b")), ([5, 0, 7, 8], [16, 1, 22, 25]))
        self.assertEqual((run.lane_now("a"), run.lane_now("b")), ([], []))
        self.assertEqual([run.works(name) for name in ("d", "t", "e")], [2, 4, 4])
        self.assertEqual(run.rows_left(), {"d": []})
        self.assertEqual(run.turn(), 10)

    def test_a_lane_of_room_1_lets_a_value_by_at_every_second_turn(self):
        run = made(THIN, {"g": list(range(300))})
        worked = [run.step() for turn in range(300)]
        self.assertEqual(worked[:5], [["g"], ["p"], ["g", "t"], ["p"], ["g", "t"]])
        self.assertEqual([run.works(name) for name in ("g", "p", "t")], [150, 150, 149])
        self.assertEqual(run.taken("t"), list(range(149)))

    def test_a_lane_of_room_2_lets_a_value_by_at_every_turn(self):
        run = made(THIN.replace("1\n", "2\n"), {"g": list(range(300))})
        for turn in range(300):
            run.step()
        self.assertEqual([run.works(name) for name in ("g", "p", "t")], [300, 299, 298])

    def test_room_that_is_freed_counts_from_the_next_turn_on(self):
        run = made("lane a 1 4\nlane b 1 6\ngive g : > a\npass p : a > b\ntake t : b >", {"g": [9]})
        self.goes(run, [(None, ["t"]), (None, ["p"]), (None, ["g", "t"]), (None, ["p"]), (None, ["t"]), (None, [])])

    def test_what_is_given_can_be_taken_from_the_next_turn_on(self):
        for text in (THIN.replace("1\n", "9\n"), "lane a 9\nlane b 9\ntake t : b >\npass p : a > b\ngive g : > a"):
            run = made(text, {"g": [1]})
            self.goes(run, [(None, ["g"]), (None, ["p"]), (None, ["t"]), (None, [])])

    def test_the_names_come_in_the_order_of_the_net(self):
        rows = THIN.replace("1\n", "2 3\n").split("\n")
        for parts in (rows[2:], rows[:1:-1], [rows[3], rows[2], rows[4]]):
            run = made("\n".join(rows[:2] + parts), {"g": [1]})
            self.assertEqual(run.step(["t", "g"]), ["p"])
            self.assertEqual(run.step(), [part.split(" ")[1] for part in parts if part[:4] != "pass"])

    def test_a_full_lane(self):
        run = made("lane a 2 1 2\nlane b 1\ngive g : > a\npass p : a > b\ntake t : b >", {"g": [3]})
        self.assertIs(run.can_work("g"), False)
        self.goes(run, [(["t"], ["p"]), (["t"], ["g"]), (["t"], []), (["t"], []), (None, ["t"]), (None, ["p"])])

    def test_both_lanes_of_a_copy_must_have_room(self):
        text = "lane a 3 1\nlane b {}\nlane c {}\ngive d : > a\ncopy k : a > b c\ntake e : b >\ntake f : c >"
        for rooms, able in ((("1", "1"), True), (("1 5", "1"), False), (("1", "1 5"), False), (("2 5", "2 5"), True)):
            self.assertIs(made(text.format(*rooms), {}).can_work("k"), able)

    def test_doors_held_back(self):
        run = made(LINE, {"d": [7, 8]})
        self.goes(run, [([], ["t"]), (["d"], ["e"]), (["e", "d"], ["t"]), (["d", "e", "d", "e"], []), (["e"], ["d"]),
                        (["d"], ["e"]), (["e"], ["d", "t"]), (None, ["e"])])
        self.assertEqual(run.turn(), 8)
        self.assertEqual((run.lane_now("a"), run.taken("e")), ([8], [16, 1, 22]))

    def test_held_names_in_any_order_and_twice(self):
        for held in (["e", "g"], ["g", "e"], ["e", "g", "e"], ["g", "g", "e", "e"]):
            run = made("lane a 2 1\nlane b 2 1\ngive g : > a\npass p : a > b\ntake e : b >", {"g": [1]})
            before = list(held)
            self.assertEqual(run.step(held), ["p"])
            self.assertEqual(held, before)
            self.assertEqual(run.step(), ["g", "e"])

    def test_a_door_that_could_not_work_may_be_held_back(self):
        run = made(THIN, {})
        self.goes(run, [(["g", "t"], []), (["t"], []), ([], [])])

    def test_nothing_of_holding_back_is_kept(self):
        run = made(THIN, {"g": [1, 2]})
        self.goes(run, [(["g"], []), (None, ["g"])])

    def test_a_choose_looks_at_one_side_alone(self):
        run = made(CHOOSE, {"g": [0, 1, 1], "h": [10], "i": [20, 21]})
        self.goes(run, [(["i"], ["g", "h"]), (["i", "e"], ["g", "s"]), (["i", "e"], ["g"]), (["e"], ["i"]),
                        (["e"], ["i", "s"]), (["e"], ["s"]), (None, ["e"])])
        self.assertEqual(run.had("x"), [10, 20, 21])
        self.assertEqual(run.taken("e"), [10])

    def test_a_choose_leaves_the_other_side_its_values(self):
        run = made(CHOOSE, {"g": [1], "h": [10], "i": [20]})
        self.goes(run, [(None, ["g", "h", "i"]), (None, ["s"]), (None, ["e"]), (None, [])])
        self.assertEqual((run.lane_now("b"), run.lane_now("c")), ([10], []))

    def test_a_split_looks_at_one_lane_out_alone(self):
        run = made(SPLIT.replace("lane a 9", "lane a 9 0 1 0 1").replace("lane b 9", "lane b 9 5 6 7 8"), {})
        held = ["e", "f"]
        self.goes(run, [(held, ["s"]), (held, ["s"]), (held, [])])
        self.assertEqual((run.lane_now("c"), run.lane_now("x")), ([5], [6]))
        self.goes(run, [(["e"], ["f"]), (held, []), (["f"], ["e"]), (held, ["s"]), (held, ["s"]), (held, [])])
        self.assertEqual((run.had("c"), run.had("x")), ([5, 7], [6, 8]))

    def test_a_split_and_a_full_lane_that_is_not_asked(self):
        for c, able in ((0, True), (1, False)):
            run = made(SPLIT.replace("lane a 9", f"lane a 9 {c}").replace("lane b 9", "lane b 9 5")
                       .replace("lane x 1", "lane x 1 4"), {})
            self.assertIs(run.can_work("s"), able)
            self.assertEqual("s" in run.step(["f"]), able)

    def test_a_lane_of_a_part_to_itself(self):
        run = made("lane a 1 1\nturn t 2 1 : a > a", {})
        self.goes(run, [(None, []), (None, [])])
        run = made("lane a 2 1\nturn t 2 1 : a > a", {})
        self.goes(run, [(None, ["t"]), (None, ["t"]), (None, ["t"])])
        self.assertEqual((run.lane_now("a"), run.had("a")), ([15], [1, 3, 7, 15]))
        run = made("lane a 2\nturn t 2 1 : a > a", {})
        self.goes(run, [(None, [])])
        run = made("lane a 2 1 2\nturn t 2 1 : a > a", {})
        self.goes(run, [(None, [])])

    def test_a_heap_remembers(self):
        run = made("lane a 9 1 2 999999999\nlane b 9\ngive g : > a\nheap h 7 : a > b\ntake t : b >", {"g": [4]})
        for turn in range(6):
            run.step()
        self.assertEqual(run.taken("t"), [8, 10, 9, 13])

    def test_drawn_nets(self):
        for source, net, rows in drawn_nets(52, 200):
            model, run = Model(net.told(), rows), Run(net, rows)
            for turn in range(25):
                self.assertEqual([name for name in net.part_names() if run.can_work(name)], model.able())
                held = drawn_held(source, net)
                self.assertEqual(run.step(source.choice([held, held * 2, held[::-1]])), model.step(held))
                self.assertEqual({lane: run.lane_now(lane) for lane in net.lane_names()}, model.lanes)
                self.assertEqual(run.rows_left(), model.rows)


class Telling(unittest.TestCase):
    def test_numbers_are_whole(self):
        run = made(LINE, {"d": [7]})
        for turn in range(4):
            self.assertTrue(is_whole(run.turn()) and run.turn() == turn)
            self.assertTrue(all(is_whole(run.works(name)) for name in ("d", "t", "e")))
            self.assertTrue(all(type(run.can_work(name)) is bool for name in ("d", "t", "e")))
            run.step()

    def test_what_can_work_is_what_works_with_open_doors(self):
        for source, net, rows in drawn_nets(53, 60):
            run = Run(net, rows)
            for turn in range(15):
                able = [name for name in net.part_names() if run.can_work(name)]
                self.assertEqual(run.step(), able)

    def test_asking_changes_nothing(self):
        for source, net, rows in drawn_nets(54, 20):
            run, other = Run(net, rows), Run(net, rows)
            for turn in range(10):
                self.assertEqual(run_state(run, net), run_state(run, net))
                held = drawn_held(source, net)
                self.assertEqual(run.step(held), other.step(held))

    def test_what_was_taken_and_what_is_held_are_what_it_had(self):
        for source, net, rows in drawn_nets(55, 60):
            run = Run(net, rows)
            for turn in range(15):
                run.step(drawn_held(source, net))
                for door in net.takes():
                    lane = net.part_of(door).ins[0]
                    self.assertEqual(run.taken(door) + run.lane_now(lane), run.had(lane))
                    self.assertEqual(len(run.taken(door)), run.works(door))
                for door in net.gives():
                    lane = net.part_of(door).outs[0]
                    self.assertEqual(run.had(lane), net.first_of(lane) + rows.get(door, [])[:run.works(door)])
                    self.assertEqual(rows.get(door, [])[run.works(door):], run.rows_left()[door])

    def test_works_counts_the_turns_at_which_a_part_worked(self):
        for source, net, rows in drawn_nets(56, 30):
            run = Run(net, rows)
            worked = []
            for turn in range(15):
                worked += run.step(drawn_held(source, net))
                self.assertEqual(run.turn(), turn + 1)
            for name in net.part_names():
                self.assertEqual(run.works(name), worked.count(name))

    def test_lists_that_were_told_and_changed_later(self):
        net = read_net(LINE)
        run = Run(net, {"d": [7, 8, 9]})
        for turn in range(5):
            before = copy.deepcopy(run_state(run, net))
            for ask in (lambda: run.taken("e"), lambda: run.lane_now("a"), lambda: run.had("a"), lambda: run.had("b"),
                        lambda: run.rows_left()["d"], lambda: run.net_now().first_of("a"), lambda: run.net_now().told()[0]):
                ask().append(99)
                ask().clear()
            run.rows_left().clear()
            self.assertEqual(run_state(run, net), before)
            run.step().append("z")
        self.assertEqual(run.had("a"), [5, 0, 7, 8])

    def test_two_runs_of_one_net_have_nothing_in_common(self):
        net = read_net(LINE)
        rows = {"d": [7, 8, 9]}
        one, other = Run(net, rows), Run(net, rows)
        before = run_state(other, net)
        for turn in range(5):
            one.step()
        self.assertEqual(run_state(other, net), before)
        self.assertEqual(net.told(), read_net(LINE).told())


class Refusals(unittest.TestCase):
    def refused(self, ask, name):
        with self.assertRaises(LaneError) as taken:
            ask()
        self.assertIs(type(taken.exception), NoSuch)
        self.assertIs(taken.exception.name, name)

    def test_names_that_are_not_there(self):
        run = made(LINE, {"d": [7]})
        run.step()
        for ask, others in ((run.can_work, ("a", "b")), (run.works, ("a", "b")), (run.taken, ("d", "t", "a")),
                            (run.lane_now, ("d", "t", "e")), (run.had, ("d", "t", "e"))):
            for name in others + ("z", "", "A", "a ", "no name at all", None, 0, True, ["a"]):
                with self.subTest(f"{ask.__name__} of {name!r}"):
                    self.refused(lambda: ask(name), name)

    def test_names_of_lanes_and_parts_are_apart(self):
        run = made("lane e 2 5\nlane d 1\ngive d : > e\npass a : e > d\ntake e : d >", {"d": [7]})
        for turn in range(2):
            run.step()
        self.assertEqual((run.taken("e"), run.had("e"), run.had("d"), run.works("d")), ([5], [5, 7], [5], 1))
        self.refused(lambda: run.had("a"), "a")

    def test_held_names_that_are_no_doors(self):
        net = read_net(LINE)
        run = Run(net, {"d": [7, 8]})
        for turn in range(4):
            before = run_state(run, net)
            for held, name in ((["t"], "t"), (["a"], "a"), (["z"], "z"), ([""], ""), (["d", "t", "z"], "t"),
                               (["d", "z", "t"], "z"), (["e", "d", "e", "D"], "D"), (["t", "d"], "t"), ([None], None)):
                with self.subTest(held):
                    self.refused(lambda: run.step(held), name)
                    self.assertEqual(run_state(run, net), before)
            run.step()


class EveryTurn(unittest.TestCase):
    def test_rooms_and_beginnings_of_the_plain_rows(self):
        for source, net, rows in drawn_nets(57, 150):
            run = Run(net, rows)
            plain = plain_rows(net, rows, 40)
            for turn in range(30):
                run.step(drawn_held(source, net) if source.randrange(4) else None)
                least = plain_rows(net, rows, turn + 1)
                for lane in net.lane_names():
                    had, now = run.had(lane), run.lane_now(lane)
                    self.assertLessEqual(len(now), net.room_of(lane))
                    self.assertEqual(had, plain[lane][:len(had)])
                    self.assertEqual(had, least[lane][:len(had)])
                    self.assertEqual(now, had[len(had) - len(now):])

    def test_how_many_values_a_lane_ever_had(self):
        for source, net, rows in drawn_nets(58, 60):
            run = Run(net, rows)
            for turn in range(20):
                run.step(drawn_held(source, net))
                for lane in net.lane_names():
                    giver, many = net.giver_of(lane), len(run.had(lane)) - len(net.first_of(lane))
                    if net.part_of(giver).kind() != "split":
                        self.assertEqual(many, run.works(giver))
                    taker, gone = net.taker_of(lane), len(run.had(lane)) - len(run.lane_now(lane))
                    if net.part_of(taker).kind() != "choose":
                        self.assertEqual(gone, run.works(taker))

    def test_three_hundred_turns(self):
        for source, net, rows in drawn_nets(59, 5):
            rows = {door: [source.randrange(100) for count in range(300)] for door in net.gives()}
            run = Run(net, rows)
            for turn in range(300):
                run.step()
            plain = plain_rows(net, rows, 300)
            for lane in net.lane_names():
                self.assertEqual(run.had(lane), plain[lane][:len(run.had(lane))])
            self.assertEqual(run.turn(), 300)


class AmidARun(unittest.TestCase):
    def test_the_net_as_it_stands(self):
        run = made("lane a 3 1 2\nlane b 2\ngive g : > a\nheap h 7 : a > b\ntake t : b >", {"g": [3, 4, 5]})
        run.step(["t"])
        run.step(["t"])
        self.assertEqual(show_net(run.net_now()), "lane a 3 3 4\nlane b 2 8 10\ngive g : > a\nheap h 10 : a > b\ntake t : b >")
        self.assertEqual(run.rows_left(), {"g": [5]})
        self.assertIs(type(run.net_now()), Net)

    def test_only_first_values_and_heaps_differ(self):
        for source, net, rows in drawn_nets(60, 40):
            run = Run(net, rows)
            for turn in range(10):
                run.step(drawn_held(source, net))
            lanes, parts = run.net_now().told()
            self.assertEqual([lane[:2] for lane in lanes], [lane[:2] for lane in net.told()[0]])
            self.assertEqual([list(lane[2]) for lane in lanes], [run.lane_now(lane[0]) for lane in lanes])
            for part, old in zip(parts, net.told()[1]):
                if part[0] == "heap":
                    given = run.had(part[4][0])[len(net.first_of(part[4][0])):]
                    self.assertEqual(part, old[:2] + ((given[-1],) if given else old[2],) + old[3:])
                else:
                    self.assertEqual(part, old)

    def test_a_run_made_of_them_goes_on_as_the_first_one(self):
        for source, net, rows in drawn_nets(61, 100):
            run = Run(net, rows)
            for turn in range(source.randrange(12)):
                run.step(drawn_held(source, net))
            before = run_state(run, net)
            other = Run(run.net_now(), run.rows_left())
            third = Run(read_net(show_net(run.net_now())), run.rows_left())
            self.assertEqual(other.turn(), 0)
            works = {name: run.works(name) for name in net.part_names()}
            self.assertEqual(run_state(run, net), before)
            for turn in range(12):
                held = drawn_held(source, net)
                worked = run.step(held)
                self.assertEqual(other.step(held), worked)
                self.assertEqual(third.step(held), worked)
                for lane in net.lane_names():
                    self.assertEqual(other.lane_now(lane), run.lane_now(lane))
                    self.assertEqual(third.lane_now(lane), run.lane_now(lane))
                self.assertEqual(other.rows_left(), run.rows_left())
                self.assertEqual(other.net_now().told(), run.net_now().told())
            for name in net.part_names():
                self.assertEqual(other.works(name) + works[name], run.works(name))

    def test_the_two_runs_have_nothing_in_common(self):
        net = read_net(LINE)
        run = Run(net, {"d": [7, 8]})
        run.step()
        told, left = run.net_now(), run.rows_left()
        before = run_state(run, net)
        other = Run(told, left)
        for turn in range(5):
            other.step()
        self.assertEqual(run_state(run, net), before)
        before = run_state(other, told)
        run.step()
        left["d"].clear()
        self.assertEqual(run_state(other, told), before)


class TwoRuns(unittest.TestCase):
    def compared(self, net, one, other):
        for name in net.part_names():
            self.assertGreaterEqual(other.works(name), one.works(name))
        for lane in net.lane_names():
            had = one.had(lane)
            self.assertEqual(other.had(lane)[:len(had)], had)

    def test_more_room_longer_rows_and_less_holding_back(self):
        oftener = 0
        for source, net, rows in drawn_nets(62, 150):
            lanes, parts = net.told()
            wider = Net([(name, min(199, room + source.randrange(3)), first) for name, room, first in lanes], parts)
            more = drawn_rows(source, net)
            longer = {door: rows.get(door, []) + more.get(door, []) for door in net.gives()}
            one, other = Run(net, rows), Run(wider, longer)
            for turn in range(25):
                held = drawn_held(source, net)
                one.step(held)
                other.step([door for door in held if source.randrange(2)])
                self.compared(net, one, other)
            oftener += sum(other.works(name) - one.works(name) for name in net.part_names())
        self.assertGreater(oftener, 1000)

    def test_more_turns(self):
        for source, net, rows in drawn_nets(63, 30):
            run = Run(net, rows)
            for turn in range(15):
                before = {name: run.works(name) for name in net.part_names()}
                run.step(drawn_held(source, net))
                for name in before:
                    self.assertGreaterEqual(run.works(name), before[name])

    def test_more_room_alone(self):
        run, wide = made(THIN, {"g": list(range(50))}), made(THIN.replace("1\n", "2\n"), {"g": list(range(50))})
        net = read_net(THIN)
        for turn in range(20):
            run.step()
            wide.step()
            self.compared(net, run, wide)
        self.assertEqual((run.works("g"), wide.works("g")), (10, 20))


if __name__ == "__main__":
    unittest.main()
