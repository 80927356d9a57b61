"""The eleven kinds of parts: what each lacks, takes, gives and remembers."""

from holdlane.errors import BadLanes, BadNumbers, NoKind
from holdlane.words import is_value, rest

# How many numbers, lanes in and lanes out a part of the kind has.
COUNTS = {
    "give": (0, 0, 1),
    "take": (0, 1, 0),
    "pass": (0, 1, 1),
    "copy": (0, 1, 2),
    "turn": (2, 1, 1),
    "heap": (1, 1, 1),
    "add": (0, 2, 1),
    "less": (0, 2, 1),
    "order": (0, 2, 2),
    "choose": (0, 3, 1),
    "split": (0, 2, 2),
}


class Part:
    def __init__(self, name, numbers, ins, outs):
        self.name = name
        self.numbers = tuple(numbers)
        self.ins = tuple(ins)
        self.outs = tuple(outs)

    def kind(self):
        raise NotImplementedError("each kind tells its own word")

    def start(self):
        return 0

    def lacks(self, heads):
        for place in self.taking(heads):
            if heads[place] is None:
                return place
        return None

    def taking(self, heads):
        return list(range(len(self.ins)))

    def worked(self, values, kept):
        raise NotImplementedError("each kind works in its own way")

    def with_memory(self, kept):
        return made_of(self.kind(), self.name, self.numbers, self.ins, self.outs)


class Give(Part):
    def kind(self):
        return "give"

    def worked(self, values, kept):
        return ([(0, values[0])], kept)


class Take(Part):
    def kind(self):
        return "take"

    def worked(self, values, kept):
        return ([], kept)


class Pass(Part):
    def kind(self):
        return "pass"

    def worked(self, values, kept):
        return ([(0, values[0])], kept)


class Copy(Part):
    def kind(self):
        return "copy"

    def worked(self, values, kept):
        return ([(0, values[0]), (1, values[0])], kept)


class Turn(Part):
    def kind(self):
        return "turn"

    def worked(self, values, kept):
        return ([(0, rest(self.numbers[0] * values[0] + self.numbers[1]))], kept)


class Heap(Part):
    def kind(self):
        return "heap"

    def start(self):
        return self.numbers[0]

    def worked(self, values, kept):
        together = rest(kept + values[0])
        return ([(0, together)], together)

    def with_memory(self, kept):
        return Heap(self.name, (kept,), self.ins, self.outs)


class Add(Part):
    def kind(self):
        return "add"

    def worked(self, values, kept):
        return ([(0, rest(values[0] + values[1]))], kept)


class Less(Part):
    def kind(self):
        return "less"

    def worked(self, values, kept):
        return ([(0, 1 if values[0] < values[1] else 0)], kept)


class Order(Part):
    def kind(self):
        return "order"

    def worked(self, values, kept):
        return ([(0, min(values)), (1, max(values))], kept)


class Choose(Part):
    def kind(self):
        return "choose"

    def taking(self, heads):
        # Without a choosing value neither of the other two lanes is asked for.
        if heads[0] is None:
            return [0]
        return [0, 1 + heads[0] % 2]

    def worked(self, values, kept):
        return ([(0, values[1])], kept)


class Split(Part):
    def kind(self):
        return "split"

    def worked(self, values, kept):
        return ([(values[0] % 2, values[1])], kept)


def is_kind(word):
    return word in COUNTS


def need_fit(kind, name, numbers, ins, outs):
    if not is_kind(kind):
        raise NoKind(kind)
    counts = COUNTS[kind]
    if len(numbers) != counts[0] or not all([is_value(number) for number in numbers]):
        raise BadNumbers(name)
    if len(ins) != counts[1] or len(outs) != counts[2]:
        raise BadLanes(name)


# A row for each kind, since classes are not kept in a dict.
def made_of(kind, name, numbers, ins, outs):
    if kind == "give":
        return Give(name, numbers, ins, outs)
    if kind == "take":
        return Take(name, numbers, ins, outs)
    if kind == "pass":
        return Pass(name, numbers, ins, outs)
    if kind == "copy":
        return Copy(name, numbers, ins, outs)
    if kind == "turn":
        return Turn(name, numbers, ins, outs)
    if kind == "heap":
        return Heap(name, numbers, ins, outs)
    if kind == "add":
        return Add(name, numbers, ins, outs)
    if kind == "less":
        return Less(name, numbers, ins, outs)
    if kind == "order":
        return Order(name, numbers, ins, outs)
    if kind == "choose":
        return Choose(name, numbers, ins, outs)
    return Split(name, numbers, ins, outs)


def part_made(kind, name, numbers, ins, outs):
    need_fit(kind, name, numbers, ins, outs)
    return made_of(kind, name, numbers, ins, outs)
