"""Runs of a net, turn by turn."""

from holdlane.errors import NoSuch
from holdlane.flow import Flow
from holdlane.nets import Net, row_of
from holdlane.plain import need_rows


class Run:
    def __init__(self, net, rows):
        need_rows(net, rows)
        self.net = net
        self.flow = Flow(net, rows)
        self.turns = 0

    def step(self, held=None):
        back = [] if held is None else held
        self.need_doors(back)
        # All deeds are told by the state as the turn begins, so none is done until all are known.
        deeds = [(name, self.next_deed(name)) for name in self.net.part_names() if name not in back]
        due = [pair for pair in deeds if pair[1] is not None]
        for name, deed in due:
            self.flow.do(name, deed)
        self.turns += 1
        return [name for name, deed in due]

    def need_doors(self, names):
        doors = self.net.gives() + self.net.takes()
        for name in names:
            if name not in doors:
                raise NoSuch(name)

    def next_deed(self, name):
        deed = self.flow.deed(name)
        return None if deed is None or self.full_lane(deed) is not None else deed

    def full_lane(self, deed):
        for lane, value in deed[1]:
            if self.flow.holds(lane) >= self.net.room_of(lane):
                return lane
        return None

    def can_work(self, name):
        return self.next_deed(name) is not None

    def works(self, name):
        self.net.part_of(name)
        return self.flow.done[name]

    def taken(self, name):
        if name not in self.net.takes():
            raise NoSuch(name)
        return self.flow.gone_by(self.net.part_of(name).ins[0])

    def lane_now(self, name):
        self.net.need_lane_name(name)
        return self.flow.held_now(name)

    def had(self, name):
        self.net.need_lane_name(name)
        return list(self.flow.ever[name])

    def turn(self):
        return self.turns

    def net_now(self):
        names = self.net.lane_names()
        lanes = [(name, self.net.room_of(name), self.lane_now(name)) for name in names]
        return Net(lanes, [self.part_now(name) for name in self.net.part_names()])

    def part_now(self, name):
        return row_of(self.net.part_of(name).with_memory(self.flow.kept[name]))

    def rows_left(self):
        left = {}
        for door in self.net.gives():
            left[door] = self.flow.row_left(door)
        return left
