"""Nets drawn by a seeded source, and what they ought to do, reckoned apart from the package."""

import itertools
import random
from fractions import Fraction

from holdlane.errors import Loose
from holdlane.nets import Net

VALUES = 10 ** 9
COUNTS = {
    "give": (0, 0, 1), "take": (0, 1, 0), "pass": (0, 1, 1), "copy": (0, 1, 2), "turn": (2, 1, 1), "heap": (1, 1, 1),
    "add": (0, 2, 1), "less": (0, 2, 1), "order": (0, 2, 2), "choose": (0, 3, 1), "split": (0, 2, 2),
}
STAGES = [kind for kind in COUNTS if kind not in ("give", "take")]
CALM = [kind for kind in STAGES if kind not in ("choose", "split")]


def drawn_value(source):
    return source.choice([source.randrange(10), source.randrange(10), VALUES - 1 - source.randrange(3)])


def drawn_kinds(source, stages, least=1, most=8):
    while True:
        kinds = [source.choice(stages) for count in range(source.randrange(least, most + 1))]
        more = sum(COUNTS[kind][1] - COUNTS[kind][2] for kind in kinds)
        doors = source.randrange(3)
        kinds += ["give"] * (doors + max(0, more)) + ["take"] * (doors + max(0, -more))
        lanes = sum(COUNTS[kind][1] for kind in kinds)
        if len(kinds) <= 16 and 1 <= lanes <= 24:
            source.shuffle(kinds)
            return kinds


def drawn_forms(source, kinds):
    """Lanes and parts that fit together, but may fall apart into several nets."""
    lanes = ["l%d" % place for place in range(sum(COUNTS[kind][1] for kind in kinds))]
    ins, outs = list(lanes), list(lanes)
    source.shuffle(ins)
    source.shuffle(outs)
    parts = []
    for place, kind in enumerate(kinds):
        many = COUNTS[kind]
        numbers = [drawn_value(source) for count in range(many[0])]
        parts.append((kind, "p%d" % place, numbers, ins[:many[1]], outs[:many[2]]))
        ins, outs = ins[many[1]:], outs[many[2]:]
    return [drawn_lane(source, name) for name in lanes], parts


def drawn_lane(source, name):
    room = source.choice([1, 1, 2, 2, 3, 4, 199])
    many = source.choice([0, 0, 1, 1, 2, room])
    return (name, room, [drawn_value(source) for count in range(min(room, many))])


def drawn_net(source, stages=STAGES, least=1, most=8):
    while True:
        lanes, parts = drawn_forms(source, drawn_kinds(source, stages, least, most))
        try:
            return Net(lanes, parts)
        except Loose:
            continue


def drawn_wide(source):
    """A calm net of sixteen parts."""
    while True:
        net = drawn_net(source, CALM, 10, 16)
        if len(net.part_names()) == 16:
            return net


def shuffled_net(source, lanes, parts):
    source.shuffle(lanes)
    source.shuffle(parts)
    return Net(lanes, parts)


def circle_parts(many):
    return [("pass", f"p{place}", [], [f"l{place}"], [f"l{(place + 1) % many}"]) for place in range(many)]


def drawn_loop(source):
    """Stages in a circle."""
    many = source.randrange(1, 17)
    return shuffled_net(source, [drawn_lane(source, f"l{place}") for place in range(many)], circle_parts(many))


def drawn_circle(source):
    """Stages in a circle whose lanes are all empty or all full, but for one of them perhaps."""
    many, full = source.randrange(1, 17), source.randrange(2)
    other = source.randrange(2 * many)
    lanes = []
    for place in range(many):
        room = source.randrange(1, 4)
        count = source.randrange(room + 1) if place == other else room * full
        lanes.append((f"l{place}", room, [1] * count))
    return shuffled_net(source, lanes, circle_parts(many))


def drawn_line(source, many=16):
    """A row of parts, each lane full or empty: the ranks may have to go up to the last."""
    lanes = [(f"l{place}", 1, [1] * source.randrange(2)) for place in range(many - 1)]
    parts = [("pass", f"p{place}", [], [f"l{place - 1}"], [f"l{place}"]) for place in range(1, many - 1)]
    parts += [("give", "p0", [], [], ["l0"]), ("take", f"p{many - 1}", [], [f"l{many - 2}"], [])]
    return shuffled_net(source, lanes, parts)


def drawn_meeting(source):
    """A copy whose two ways, of any lengths, meet again in an add."""
    one, other = source.randrange(0, 4), source.randrange(0, 9)
    ways = [[f"a{place}" for place in range(one + 1)], [f"b{place}" for place in range(other + 1)]]
    parts = [("give", "g", [], [], ["i"]), ("copy", "k", [], ["i"], [ways[0][0], ways[1][0]])]
    for way in ways:
        parts += [("pass", f"p{lane}", [], [lane], [then]) for lane, then in zip(way, way[1:])]
    parts += [("add", "s", [], [ways[0][-1], ways[1][-1]], ["o"]), ("take", "t", [], ["o"], [])]
    lanes = [drawn_lane(source, name) for name in ["i", "o"]]
    lanes += [(name, source.choice([1, 1, 2, 3]), []) for name in ways[0] + ways[1]]
    return shuffled_net(source, lanes, parts)


def roomier(source, net):
    lanes, parts = net.told()
    return Net([(name, min(199, room + source.randrange(1, 3)), first) for name, room, first in lanes], parts)


def drawn_calm(seed, many):
    """Calm nets of every sort, with their sources; every second one has few lanes of room 1."""
    draws = (lambda source: drawn_net(source, CALM), drawn_wide, drawn_loop, drawn_circle, drawn_meeting, drawn_line)
    for number in range(many):
        source = random.Random(seed * 100000 + number)
        for draw in draws:
            net = draw(source)
            yield source, net if source.randrange(2) else roomier(source, net)


def drawn_rows(source, net, most=20):
    rows = {}
    for door in net.gives():
        if source.randrange(8):
            rows[door] = [drawn_value(source) for count in range(source.randrange(most + 1))]
    return rows


def long_rows(source, net, many):
    return {door: [drawn_value(source) for count in range(many)] for door in net.gives()}


def drawn_nets(seed, many, stages=STAGES):
    for number in range(many):
        source = random.Random(seed * 100000 + number)
        net = drawn_net(source, stages)
        yield source, net, drawn_rows(source, net)


def drawn_held(source, net):
    doors = net.gives() + net.takes()
    return [door for door in doors if source.randrange(3) == 0]


def run_state(run, net):
    """All that a run tells of itself."""
    lanes = [(run.lane_now(lane), run.had(lane)) for lane in net.lane_names()]
    parts = [(run.works(name), run.can_work(name)) for name in net.part_names()]
    taken = [run.taken(door) for door in net.takes()]
    return lanes, parts, taken, run.turn(), run.net_now().told(), run.rows_left()


def streams_given(kind, numbers, ins, row, most):
    """What a part gives to each of its lanes, told of the whole rows of its lanes in."""
    if kind == "give":
        return [row[:most]]
    if kind == "take":
        return []
    if kind == "pass":
        return [ins[0][:most]]
    if kind == "copy":
        return [ins[0][:most], ins[0][:most]]
    if kind == "turn":
        return [[(numbers[0] * value + numbers[1]) % VALUES for value in ins[0][:most]]]
    if kind == "heap":
        return [[total % VALUES for total in itertools.accumulate(ins[0][:most], initial=numbers[0])][1:]]
    if kind == "choose":
        return [stream_chosen(ins, most)]
    pairs = list(zip(ins[0], ins[1]))[:most]
    if kind == "add":
        return [[(one + other) % VALUES for one, other in pairs]]
    if kind == "less":
        return [[int(one < other) for one, other in pairs]]
    if kind == "order":
        return [[sorted(pair)[0] for pair in pairs], [sorted(pair)[1] for pair in pairs]]
    return [[value for c, value in pairs if c % 2 == side] for side in (0, 1)]


def stream_chosen(ins, most):
    sides = [list(ins[1]), list(ins[2])]
    chosen = []
    for c in ins[0][:most]:
        if not sides[c % 2]:
            break
        chosen.append(sides[c % 2].pop(0))
    return chosen


def streams(told, rows, most):
    """The rows of the plain net, as the least rows that all parts agree with."""
    first = {name: list(values) for name, room, values in told[0]}
    lanes = dict(first)
    while True:
        then = dict(lanes)
        for kind, name, numbers, ins, outs in told[1]:
            given = streams_given(kind, numbers, [lanes[lane] for lane in ins], rows.get(name, []), most)
            for lane, values in zip(outs, given):
                then[lane] = first[lane] + values
        if then == lanes:
            return lanes
        lanes = then


def arcs_by_told(told):
    """The arcs of a calm net, told of its lanes and parts."""
    lanes, parts = told
    givers = {lane: part[1] for part in parts for lane in part[4]}
    takers = {lane: part[1] for part in parts for lane in part[3]}
    arcs = []
    for name, room, first in lanes:
        arcs += [(givers[name], takers[name], len(first), name, "along")]
        arcs += [(takers[name], givers[name], room - len(first), name, "against")]
    return arcs + [(part[1], part[1], 1, "", "again") for part in parts]


def is_ring(ring, arcs):
    """Whether it is a list of some of these arcs, each of which begins where the one ahead of it ends."""
    if type(ring) is not list or not ring or not all(type(arc) is tuple and arc in arcs for arc in ring):
        return False
    return all(arc[0] == ring[place - 1][1] for place, arc in enumerate(ring))


def ring_share(ring):
    return Fraction(sum(arc[2] for arc in ring), len(ring))


def least_mean(arcs):
    """The least tokens through arcs of all rings, by the least tokens on ways of each number of arcs."""
    names = sorted({arc[0] for arc in arcs})
    ways = [{names[0]: 0}]
    for count in names:
        then = {}
        for start, end, tokens, lane, way in arcs:
            if start in ways[-1]:
                then[end] = min(then.get(end, 10 ** 9), ways[-1][start] + tokens)
        ways.append(then)
    many, last = len(names), ways[-1]
    return min(max(Fraction(last[name] - ways[count][name], many - count) for count in range(many) if name in ways[count])
               for name in last)


def tokens_between(arcs):
    """The least tokens on ways from each part to each part."""
    names = sorted({arc[0] for arc in arcs})
    least = {(one, other): 0 if one == other else 10 ** 9 for one in names for other in names}
    for start, end, tokens, lane, way in arcs:
        least[start, end] = min(least[start, end], tokens)
    for middle in names:
        for one in names:
            for other in names:
                least[one, other] = min(least[one, other], least[one, middle] + least[middle, other])
    return least


class Model:
    """A run by the plainest means: every turn builds all lanes anew from those ahead of it."""

    def __init__(self, told, rows):
        self.rooms = {name: room for name, room, values in told[0]}
        self.lanes = {name: list(values) for name, room, values in told[0]}
        self.parts = told[1]
        self.rows = {part[1]: list(rows.get(part[1], [])) for part in told[1] if part[0] == "give"}
        self.memory = {part[1]: part[2][0] for part in told[1] if part[0] == "heap"}

    def lanes_taken(self, kind, ins):
        if kind == "choose" and self.lanes[ins[0]]:
            return [ins[0], ins[1 + self.lanes[ins[0]][0] % 2]]
        return list(ins)

    def given(self, part, values):
        kind, name, numbers = part[:3]
        if kind == "choose":
            return {0: values[1]}
        if kind == "split":
            return {values[0] % 2: values[1]}
        heap = [self.memory.get(name)] if kind == "heap" else numbers
        row = self.rows.get(name, [])
        return {place: stream[0] for place, stream in enumerate(streams_given(kind, heap, [[v] for v in values], row, 1))}

    def deed(self, part):
        kind, name, numbers, ins, outs = part
        lanes = self.lanes_taken(kind, ins)
        if not all(self.lanes[lane] for lane in lanes) or self.rows.get(name) == []:
            return None
        given = {outs[place]: value for place, value in self.given(part, [self.lanes[lane][0] for lane in lanes]).items()}
        if any(len(self.lanes[lane]) >= self.rooms[lane] for lane in given):
            return None
        return lanes, given

    def wait(self, part):
        kind, name, numbers, ins, outs = part
        lanes = self.lanes_taken(kind, ins)
        for lane in lanes:
            if not self.lanes[lane]:
                return (name, lane, "value")
        if self.rows.get(name) == []:
            return (name, "", "end")
        given = self.given(part, [self.lanes[lane][0] for lane in lanes])
        full = [lane for place, lane in enumerate(outs) if place in given and len(self.lanes[lane]) == self.rooms[lane]]
        return (name, full[0], "room") if full else None

    def waits(self):
        return [self.wait(part) for part in self.parts if self.wait(part)]

    def able(self):
        return [part[1] for part in self.parts if self.deed(part)]

    def step(self, held):
        deeds = [(part, self.deed(part)) for part in self.parts if part[1] not in held and self.deed(part)]
        for part, (lanes, given) in deeds:
            for lane in lanes:
                self.lanes[lane] = self.lanes[lane][1:]
            for lane, value in given.items():
                self.lanes[lane] = self.lanes[lane] + [value]
                if part[0] == "heap":
                    self.memory[part[1]] = value
            if part[0] == "give":
                self.rows[part[1]] = self.rows[part[1]][1:]
        return [part[1] for part, deed in deeds]
