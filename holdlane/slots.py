"""Slots put into lanes, and stages that work ahead of the first turn."""

from holdlane.errors import Full, IsDoor, Lacks
from holdlane.nets import Net, need_fresh
from holdlane.runs import Run
from holdlane.waits import wait_of


def with_slot(net, lane, slot, fresh):
    net.need_lane_name(lane)
    need_fresh(slot, net.part_names())
    need_fresh(fresh, net.lane_names())
    told = net.told()
    lanes = [(name, room, () if name == lane else first) for name, room, first in told[0]]
    lanes.append((fresh, net.room_of(lane), net.first_of(lane)))
    parts = [part_led(part, lane, fresh) for part in told[1]]
    parts.append(("pass", slot, (), (lane,), (fresh,)))
    return Net(lanes, parts)


def part_led(part, lane, fresh):
    ins = [fresh if name == lane else name for name in part[3]]
    return (part[0], part[1], part[2], ins, part[4])


def worked_ahead(net, part):
    if net.part_of(part).kind() in ("give", "take"):
        raise IsDoor(part)
    run = Run(net, {})
    need_no_wait(wait_of(run, part))
    run.flow.do(part, run.flow.deed(part))
    return run.net_now()


# A stage has no row that could end, so it waits for a value or for room.
def need_no_wait(wait):
    if wait is not None and wait[2] == "value":
        raise Lacks(wait[1])
    if wait is not None:
        raise Full(wait[1])
