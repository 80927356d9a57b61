"""The refusals: one class each, straight under LaneError."""


class LaneError(ValueError):
    pass


class BadWord(LaneError):
    pass


class TooMany(LaneError):
    pass


class BadLine(LaneError):
    def __init__(self, line):
        LaneError.__init__(self, line)
        self.line = line


class NoKind(LaneError):
    def __init__(self, word):
        LaneError.__init__(self, word)
        self.word = word


class BadName(LaneError):
    def __init__(self, name):
        LaneError.__init__(self, name)
        self.name = name


class Doubled(LaneError):
    def __init__(self, name):
        LaneError.__init__(self, name)
        self.name = name


class NoSuch(LaneError):
    def __init__(self, name):
        LaneError.__init__(self, name)
        self.name = name


class BadNumbers(LaneError):
    def __init__(self, name):
        LaneError.__init__(self, name)
        self.name = name


class BadLanes(LaneError):
    def __init__(self, name):
        LaneError.__init__(self, name)
        self.name = name


class BadRoom(LaneError):
    def __init__(self, name):
        LaneError.__init__(self, name)
        self.name = name


class Open(LaneError):
    def __init__(self, name):
        LaneError.__init__(self, name)
        self.name = name


class Loose(LaneError):
    def __init__(self, name):
        LaneError.__init__(self, name)
        self.name = name


class NotCalm(LaneError):
    def __init__(self, name):
        LaneError.__init__(self, name)
        self.name = name


class IsDoor(LaneError):
    def __init__(self, name):
        LaneError.__init__(self, name)
        self.name = name


class BadRow(LaneError):
    def __init__(self, name):
        LaneError.__init__(self, name)
        self.name = name


class Lacks(LaneError):
    def __init__(self, lane):
        LaneError.__init__(self, lane)
        self.lane = lane


class Full(LaneError):
    def __init__(self, lane):
        LaneError.__init__(self, lane)
        self.lane = lane


class TooFast(LaneError):
    def __init__(self, ring):
        # The list that was handed in may change later: neither the field nor the error's words may hang on it.
        LaneError.__init__(self, "no room helps against this ring")
        self.ring = list(ring)
