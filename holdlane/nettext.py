"""Nets as text: a row for each lane, then a row for each part."""

from holdlane.errors import BadLine, BadWord
from holdlane.nets import Net
from holdlane.words import is_name, number_in, words_of

GREATEST = 999999999


def read_net(text):
    lanes = []
    parts = []
    for line, row in enumerate(text.split("\n")):
        words = words_of(row)
        if words[0] != "lane":
            parts.append(part_read(words, line))
        elif len(parts) == 0:
            lanes.append(lane_read(words, line))
        else:
            raise BadLine(line)
    return Net(lanes, parts)


def lane_read(words, line):
    if len(words) < 3:
        raise BadLine(line)
    need_names(words[1:2], line)
    numbers = numbers_read(words[2:], 0, GREATEST, line)
    return (words[1], numbers[0], numbers[1:])


def part_read(words, line):
    if words.count(":") != 1 or words.count(">") != 1:
        raise BadLine(line)
    colon = words.index(":")
    arrow = words.index(">")
    # A sign that stands too far ahead lies among the names or numbers and is refused there, since it is neither.
    need_names(words[:2], line)
    numbers = numbers_read(words[2:colon], 0, GREATEST, line)
    need_names(words[colon + 1:arrow], line)
    need_names(words[arrow + 1:], line)
    return (words[0], words[1], numbers, words[colon + 1:arrow], words[arrow + 1:])


def need_names(words, line):
    if not all([is_name(word) for word in words]):
        raise BadLine(line)


def numbers_read(words, low, high, line):
    return [number_read(word, low, high, line) for word in words]


def number_read(word, low, high, line):
    try:
        return number_in(word, low, high)
    except BadWord:
        raise BadLine(line) from None


def show_net(net):
    told = net.told()
    rows = [lane_shown(lane) for lane in told[0]] + [part_shown(part) for part in told[1]]
    return "\n".join(rows)


def lane_shown(lane):
    return " ".join(["lane", lane[0], str(lane[1])] + numbers_shown(lane[2]))


def part_shown(part):
    words = [part[0], part[1]] + numbers_shown(part[2])
    return " ".join(words + [":"] + list(part[3]) + [">"] + list(part[4]))


def numbers_shown(numbers):
    return [str(number) for number in numbers]
