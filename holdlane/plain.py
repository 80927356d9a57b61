"""The plain net: endless room in every lane, and nobody waits for room or turns."""

from holdlane.errors import BadRow, BadWord, NoSuch
from holdlane.flow import Flow
from holdlane.words import is_value, is_whole

LONGEST_ROW = 300
MOST_WORKINGS = 300


def is_row(thing):
    return isinstance(thing, list) and len(thing) <= LONGEST_ROW and all([is_value(value) for value in thing])


def need_rows(net, rows):
    doors = net.gives()
    for door in rows:
        if door not in doors:
            raise NoSuch(door)
    for door in rows:
        if not is_row(rows[door]):
            raise BadRow(door)


def plain_rows(net, rows, most):
    if not is_whole(most) or not 0 <= most <= MOST_WORKINGS:
        raise BadWord("a part works 0 to 300 times at most")
    need_rows(net, rows)
    flow = Flow(net, rows)
    busy = True
    # A part that could not work may find values when another one has worked, so all are asked again until none can.
    while busy:
        busy = False
        for name in net.part_names():
            if work_out(flow, name, most) > 0:
                busy = True
    return flow.ever


def work_out(flow, name, most):
    times = 0
    deed = flow.deed(name)
    while deed is not None and flow.done[name] < most:
        flow.do(name, deed)
        times += 1
        deed = flow.deed(name)
    return times
