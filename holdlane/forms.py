"""The forms of the rows by which a desk is told and asked."""

from holdlane.errors import BadLine
from holdlane.nettext import need_names, numbers_read
from holdlane.words import words_of

# Behind each first word: how many names, how many numbers behind these (None: as many as there are), and from which
# number to which the numbers go.
FORMS = {
    "row": (1, None, 0, 999999999),
    "more": (1, 1, 0, 300),
    "slot": (3, 0, 0, 0),
    "ahead": (1, 0, 0, 0),
    "turn": (None, 0, 0, 0),
    "turns": (0, 1, 1, 300),
    "lane": (1, 0, 0, 0),
    "had": (1, 0, 0, 0),
    "works": (1, 0, 0, 0),
    "taken": (1, 0, 0, 0),
    "left": (1, 0, 0, 0),
    "waits": (0, 0, 0, 0),
    "ring": (0, 0, 0, 0),
    "stopped": (0, 0, 0, 0),
    "net": (0, 0, 0, 0),
    "plain": (1, 1, 0, 300),
    "share": (0, 0, 0, 0),
    "limits": (1, 1, 0, 300),
    "room": (0, 2, 1, 1000),
}


# Told is a list: the first word, the names, and the numbers as whole numbers.
def row_read(row):
    words = words_of(row)
    if words[0] not in FORMS:
        raise BadLine(0)
    form = FORMS[words[0]]
    names = words[1:] if form[0] is None else words[1:1 + form[0]]
    numbers = words[1 + len(names):]
    need_many(names, form[0])
    need_many(numbers, form[1])
    need_names(names, 0)
    return [words[0]] + names + numbers_read(numbers, form[2], form[3], 0)


def need_many(words, many):
    if many is not None and len(words) != many:
        raise BadLine(0)
