"""What lanes and parts hold while a net works: common to the plain net and to runs."""


class Flow:
    # Rooms and turns are not looked at here: they make the difference between a run and the plain net.
    def __init__(self, net, rows):
        self.net = net
        self.ever = {}
        self.gone = {}
        for lane in net.lane_names():
            self.ever[lane] = net.first_of(lane)
            self.gone[lane] = 0
        self.kept = {}
        self.done = {}
        for name in net.part_names():
            self.kept[name] = net.part_of(name).start()
            self.done[name] = 0
        self.rows = {}
        for door in net.gives():
            self.rows[door] = list(rows.get(door, []))

    def holds(self, lane):
        return len(self.ever[lane]) - self.gone[lane]

    def held_now(self, lane):
        return self.ever[lane][self.gone[lane]:]

    def gone_by(self, lane):
        return self.ever[lane][:self.gone[lane]]

    def row_left(self, door):
        return self.rows[door][self.done[door]:]

    def head(self, lane):
        return self.ever[lane][self.gone[lane]] if self.holds(lane) > 0 else None

    def heads(self, part):
        return [self.head(lane) for lane in part.ins]

    def lacking(self, name):
        part = self.net.part_of(name)
        place = part.lacks(self.heads(part))
        return None if place is None else part.ins[place]

    def row_ended(self, name):
        return name in self.rows and self.done[name] == len(self.rows[name])

    # A deed is told apart from its doing, so that a turn can ask every part by one and the same state: the lanes to
    # take from, tuples (lane, value) to give, and what is remembered then; None where a value is lacking.
    def deed(self, name):
        if self.lacking(name) is not None or self.row_ended(name):
            return None
        part = self.net.part_of(name)
        heads = self.heads(part)
        places = part.taking(heads)
        values = [heads[place] for place in places]
        if name in self.rows:
            values = [self.rows[name][self.done[name]]]
        answer = part.worked(values, self.kept[name])
        given = [(part.outs[place], value) for place, value in answer[0]]
        return ([part.ins[place] for place in places], given, answer[1])

    def do(self, name, deed):
        for lane in deed[0]:
            self.gone[lane] += 1
        for lane, value in deed[1]:
            self.ever[lane].append(value)
        self.kept[name] = deed[2]
        self.done[name] += 1
