"""Promises 1 to 4 over the whole program, from texts to doors, by desks alone."""

import unittest

from drawn import CALM, drawn_calm, drawn_held, drawn_nets, long_rows
from holdlane.desk import Desk
from holdlane.errors import LaneError
from holdlane.nettext import show_net


def words(answer):
    return [] if answer == "none" else answer.split(" ")


def desk_of(net, rows):
    desk = Desk(show_net(net))
    for door in rows:
        desk.say(" ".join(["row", door] + [str(value) for value in rows[door]]))
    return desk


def turn_row(held):
    return " ".join(["turn"] + held)


def drawn_changes(source, net):
    """Rows that put in slots and room and let stages work ahead; some are refused."""
    rows = []
    for count in range(source.randrange(1, 8)):
        lane, part = source.choice(net.lane_names()), source.choice(net.part_names())
        rows.append(source.choice([f"more {lane} {source.randrange(4)}", f"slot {lane} s{count} f{count}", f"ahead {part}"]))
    return rows


def changed(desk, rows):
    """How many of the rows were let by."""
    many = 0
    for row in rows:
        try:
            many += desk.say(row) == "ok"
        except LaneError:
            pass
    return many


def net_rows(desk):
    return [row.split(" ") for row in desk.say("net").split(";")]


def take_lanes(desk):
    """The lane of each take-door."""
    return {row[1]: row[3] for row in net_rows(desk) if row[0] == "take"}


class Promise(unittest.TestCase):
    def test_what_a_lane_ever_had_is_a_beginning_of_its_plain_row_and_never_beyond_its_room(self):
        for source, net, rows in drawn_nets(400, 80):
            desk = desk_of(net, rows)
            changed(desk, drawn_changes(source, net))
            rooms = {row[1]: int(row[2]) for row in net_rows(desk) if row[0] == "lane"}
            plain = {lane: words(desk.say(f"plain {lane} 25")) for lane in rooms}
            for turn in range(25):
                desk.say(turn_row(drawn_held(source, net)))
                for lane, room in rooms.items():
                    had, now = words(desk.say(f"had {lane}")), words(desk.say(f"lane {lane}"))
                    self.assertEqual(had, plain[lane][:len(had)])
                    self.assertEqual(now, had[len(had) - len(now):])
                    self.assertLessEqual(len(now), room)

    def test_no_value_is_lost_doubled_or_overtaken_between_doors(self):
        text = "lane a 2\nlane b 1\nlane c 3\ngive d : > a\npass p : a > b\npass q : b > c\ntake e : c >"
        values = [str(value) for value in range(60)]
        for number in range(20):
            desk = Desk(text)
            desk.say("row d " + " ".join(values))
            for turn in range(200):
                desk.say(("turn", "turn d", "turn e", "turn d e")[(turn * (number + 3) // 2) % 4])
            self.assertEqual(words(desk.say("taken e")), values[:len(words(desk.say("taken e")))])
            self.assertGreater(len(words(desk.say("taken e"))), 10)
            self.assertEqual(sum([words(desk.say(f"lane {lane}")) for lane in "cba"], words(desk.say("taken e")))
                             + words(desk.say("left d")), values)

    def test_a_desk_written_down_amid_its_run_goes_on_as_if_nothing_had_been(self):
        for source, net, rows in drawn_nets(401, 80):
            desk = desk_of(net, rows)
            changed(desk, drawn_changes(source, net))
            for turn in range(source.randrange(1, 15)):
                desk.say(turn_row(drawn_held(source, net)))
            other = Desk(desk.say("net").replace(";", "\n"))
            for door in net.gives():
                other.say(" ".join(["row", door] + words(desk.say(f"left {door}"))))
            parts = [row[1] for row in net_rows(desk) if row[0] != "lane"]
            before = {part: int(desk.say(f"works {part}")) for part in parts}
            for turn in range(15):
                for question in ["net", "waits", "ring", "stopped"] + [f"left {door}" for door in net.gives()]:
                    self.assertEqual(other.say(question), desk.say(question))
                held = drawn_held(source, net)
                self.assertEqual(other.say(turn_row(held)), desk.say(turn_row(held)))
            for part in parts:
                self.assertEqual(int(other.say(f"works {part}")), int(desk.say(f"works {part}")) - before[part])

    def test_slots_room_and_work_ahead_change_no_doors_row_of_values(self):
        many, long = 0, 0
        for source, net, rows in drawn_nets(402, 200):
            old, desk = desk_of(net, rows), desk_of(net, rows)
            many += changed(desk, drawn_changes(source, net))
            for door in net.gives():
                self.assertEqual(desk.say(f"left {door}"), old.say(f"left {door}"))
            lanes, then = take_lanes(old), take_lanes(desk)
            self.assertEqual(list(lanes), list(then))
            plain = {door: words(old.say(f"plain {lanes[door]} 40")) for door in lanes}
            for door in lanes:
                # A slot may hold first values back by one working, so the bound is greater behind the changes.
                self.assertEqual(words(desk.say(f"plain {then[door]} 300"))[:len(plain[door])], plain[door])
            desk.say("turns 30")
            for door in lanes:
                taken = words(desk.say(f"taken {door}"))
                long += len(taken) > 5
                self.assertEqual(taken, words(old.say(f"plain {lanes[door]} 300"))[:len(taken)])
        self.assertGreater(min(many, long), 50)

    def test_with_more_room_longer_rows_and_less_holding_back_no_part_works_fewer_times(self):
        for source, net, rows in drawn_nets(403, 80):
            longer = {door: row + [7] * source.randrange(5) for door, row in rows.items()}
            desk, other = desk_of(net, rows), desk_of(net, longer)
            changed(other, [f"more {lane} {source.randrange(3)}" for lane in net.lane_names()])
            for turn in range(25):
                held = drawn_held(source, net)
                desk.say(turn_row(held))
                other.say(turn_row([door for door in held if source.randrange(2)]))
                for part in net.part_names():
                    self.assertLessEqual(int(desk.say(f"works {part}")), int(other.say(f"works {part}")))

    def test_a_part_of_a_ring_of_waits_never_works_again(self):
        rings = 0
        for source, net, rows in drawn_nets(404, 120):
            desk = desk_of(net, rows)
            desk.say(f"turns {source.randrange(1, 20)}")
            ring = desk.say("ring")
            if ring != "none":
                rings += 1
                parts = [wait.split(" ")[0] for wait in ring.split("; ")]
                works = [desk.say(f"works {part}") for part in parts]
                for turn in range(15):
                    desk.say(turn_row(drawn_held(source, net)))
                    self.assertEqual([desk.say(f"works {part}") for part in parts], works)
                    self.assertLessEqual(set(ring.split("; ")), set(desk.say("waits").split("; ")))
        self.assertGreater(rings, 20)

    def test_a_net_that_stands_still_has_a_ring_or_a_row_that_has_ended(self):
        still = 0
        for source, net, rows in drawn_nets(405, 120):
            desk = desk_of(net, rows)
            desk.say("turns 60")
            if desk.say("stopped") == "yes":
                still += 1
                self.assertEqual(len(desk.say("waits").split("; ")), len(net.part_names()))
                self.assertTrue(desk.say("ring") != "none" or " end" in desk.say("waits"))
                self.assertEqual(desk.say("turn"), "none")
        self.assertGreater(still, 20)

    def test_how_often_parts_have_worked_lies_between_the_limits(self):
        for source, net in drawn_calm(406, 10):
            turns = source.randrange(1, 40)
            open_desk, held_desk = [desk_of(net, long_rows(source, net, turns)) for count in range(2)]
            open_desk.say(f"turns {turns}")
            for turn in range(turns):
                held_desk.say(turn_row(drawn_held(source, net)))
            for part in net.part_names():
                fewest, most = [int(word) for word in open_desk.say(f"limits {part} {turns}").split(" ")]
                self.assertLessEqual(fewest, int(open_desk.say(f"works {part}")))
                self.assertLessEqual(int(open_desk.say(f"works {part}")), most)
                self.assertLessEqual(int(held_desk.say(f"works {part}")), most)

    def test_work_ahead_leaves_the_share_as_it_is(self):
        worked = 0
        for source, net, rows in drawn_nets(407, 120, CALM):
            desk = desk_of(net, rows)
            share = desk.say("share")
            worked += changed(desk, [f"ahead {part}" for part in net.part_names()])
            self.assertEqual(desk.say("share"), share)
        self.assertGreater(worked, 30)

    def test_the_same_rows_give_the_same_answers(self):
        for source, net, rows in drawn_nets(408, 30):
            told = drawn_changes(source, net) + [turn_row(drawn_held(source, net)) for turn in range(5)]
            told += ["net", "waits", "ring", "share", "room 1 1", f"limits {net.part_names()[0]} 9"]
            answers = []
            for desk in (desk_of(net, rows), desk_of(net, rows)):
                answers.append([])
                for row in told:
                    try:
                        answers[-1].append(desk.say(row))
                    except LaneError as refusal:
                        answers[-1].append(type(refusal))
            self.assertEqual(answers[0], answers[1])


if __name__ == "__main__":
    unittest.main()
