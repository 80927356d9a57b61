"""A desk: a net, rows of values for its doors and a run of both, told and asked by rows of text."""

from holdlane.answers import answer_of_net, answer_of_run, words_shown
from holdlane.errors import BadLine
from holdlane.forms import row_read
from holdlane.nettext import read_net
from holdlane.plain import need_rows
from holdlane.rooms import with_rooms
from holdlane.runs import Run
from holdlane.shares import MOST_TURNS
from holdlane.slots import with_slot, worked_ahead


def net_changed(net, words):
    if words[0] == "more":
        return with_rooms(net, {words[1]: words[2]})
    if words[0] == "slot":
        return with_slot(net, words[1], words[2], words[3])
    return worked_ahead(net, words[1])


class Desk:
    # The net and the rows stay as they are ahead of the first turn; what the turns change, the run keeps.
    def __init__(self, text):
        self.net = read_net(text)
        self.rows = {}
        self.run = Run(self.net, self.rows)

    def say(self, row):
        words = row_read(row)
        if words[0] in ("row", "more", "slot", "ahead"):
            return self.change(words)
        if words[0] == "turn":
            return self.one_turn(words[1:])
        if words[0] == "turns":
            return self.open_turns(words[1])
        if words[0] in ("plain", "share", "limits", "room"):
            return answer_of_net(self.net, self.rows, words)
        return answer_of_run(self.run, words)

    def change(self, words):
        if self.run.turn() > 0:
            raise BadLine(0)
        if words[0] == "row":
            self.change_row(words[1], words[2:])
        else:
            self.net = net_changed(self.net, words)
        self.run = Run(self.net, self.rows)
        return "ok"

    def change_row(self, door, values):
        need_rows(self.net, {door: values})
        self.rows[door] = values

    def one_turn(self, held):
        self.need_turns(1)
        return words_shown(self.run.step(held))

    def open_turns(self, many):
        self.need_turns(many)
        works = 0
        for count in range(many):
            works += len(self.run.step())
        return str(works)

    def need_turns(self, many):
        if self.run.turn() + many > MOST_TURNS:
            raise BadLine(0)
