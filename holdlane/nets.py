"""Nets: parts that are joined by lanes."""

from holdlane.errors import BadLanes, BadName, BadNumbers, BadRoom, Doubled, Loose, NoKind, NoSuch, Open, TooMany
from holdlane.parts import is_kind, part_made
from holdlane.words import is_name, is_value, is_whole

MOST_LANES = 24
MOST_PARTS = 16
MOST_ROOM = 199


def need_counts(lanes, parts):
    if not 1 <= len(lanes) <= MOST_LANES:
        raise TooMany("a net has one to twenty-four lanes")
    if not 1 <= len(parts) <= MOST_PARTS:
        raise TooMany("a net has one to sixteen parts")


def need_fresh(name, known):
    if not is_name(name):
        raise BadName(name)
    if name in known:
        raise Doubled(name)


def need_lane(name, room, first):
    if not is_whole(room) or not max(1, len(first)) <= room <= MOST_ROOM:
        raise BadRoom(name)
    if not all([is_value(value) for value in first]):
        raise BadNumbers(name)


def fresh_part(row, known):
    # The name is looked at ahead of the making, whose refusals of numbers and lanes go behind those of the name.
    if not is_kind(row[0]):
        raise NoKind(row[0])
    need_fresh(row[1], known)
    return part_made(row[0], row[1], row[2], row[3], row[4])


def tie_lanes(part, lanes, rooms, ends):
    for lane in lanes:
        if lane not in rooms or lane in ends:
            raise BadLanes(part)
        ends[lane] = part


def need_ends(rooms, givers, takers):
    for lane in rooms:
        if lane not in givers or lane not in takers:
            raise Open(lane)


def joined_with(part, givers, takers):
    joined = {part: True}
    grown = True
    while grown:
        grown = False
        for lane in givers:
            if (givers[lane] in joined) != (takers[lane] in joined):
                joined[givers[lane]] = True
                joined[takers[lane]] = True
                grown = True
    return joined


def need_joined(names, givers, takers):
    joined = joined_with(names[0], givers, takers)
    for name in names:
        if name not in joined:
            raise Loose(name)


def row_of(part):
    return (part.kind(), part.name, part.numbers, part.ins, part.outs)


class Net:
    def __init__(self, lanes, parts):
        need_counts(lanes, parts)
        self.rooms = {}
        self.firsts = {}
        for lane in lanes:
            need_fresh(lane[0], self.rooms)
            need_lane(lane[0], lane[1], lane[2])
            self.rooms[lane[0]] = lane[1]
            self.firsts[lane[0]] = tuple(lane[2])
        self.parts = {}
        self.givers = {}
        self.takers = {}
        for row in parts:
            part = fresh_part(row, self.parts)
            tie_lanes(part.name, part.ins, self.rooms, self.takers)
            tie_lanes(part.name, part.outs, self.rooms, self.givers)
            self.parts[part.name] = part
        need_ends(self.rooms, self.givers, self.takers)
        need_joined(list(self.parts), self.givers, self.takers)

    def lane_names(self):
        return list(self.rooms)

    def part_names(self):
        return list(self.parts)

    def gives(self):
        return self.names_of_kind("give")

    def takes(self):
        return self.names_of_kind("take")

    def names_of_kind(self, kind):
        return [name for name in self.parts if self.parts[name].kind() == kind]

    def odd(self):
        for name in self.parts:
            if self.parts[name].kind() in ("choose", "split"):
                return name
        return None

    def room_of(self, name):
        self.need_lane_name(name)
        return self.rooms[name]

    def first_of(self, name):
        self.need_lane_name(name)
        return list(self.firsts[name])

    def giver_of(self, name):
        self.need_lane_name(name)
        return self.givers[name]

    def taker_of(self, name):
        self.need_lane_name(name)
        return self.takers[name]

    def part_of(self, name):
        if name not in self.part_names():
            raise NoSuch(name)
        return self.parts[name]

    def need_lane_name(self, name):
        # A list, unlike a dict, can be asked for a thing of any kind.
        if name not in self.lane_names():
            raise NoSuch(name)

    def told(self):
        lanes = [(name, self.rooms[name], self.firsts[name]) for name in self.rooms]
        parts = [row_of(self.parts[name]) for name in self.parts]
        return (lanes, parts)
