"""What a desk answers to the questions of its run and of its net, as texts."""

from holdlane.errors import NoSuch
from holdlane.nettext import numbers_shown, show_net
from holdlane.plain import plain_rows
from holdlane.rooms import plan
from holdlane.shares import limits, share
from holdlane.waits import ring_of_waits, stopped, waits_of


def words_shown(words):
    return " ".join(words) if len(words) > 0 else "none"


def groups_shown(groups):
    return "; ".join(groups) if len(groups) > 0 else "none"


def values_shown(numbers):
    return words_shown(numbers_shown(numbers))


def wait_shown(wait):
    return " ".join([wait[0], "end"] if wait[2] == "end" else [wait[0], wait[2], wait[1]])


def waits_shown(waits):
    return groups_shown([wait_shown(wait) for wait in waits])


def answer_of_run(run, words):
    if words[0] == "waits":
        return waits_shown(waits_of(run))
    if words[0] == "ring":
        return waits_shown(ring_of_waits(run))
    if words[0] == "stopped":
        return "yes" if stopped(run) else "no"
    if words[0] == "net":
        return show_net(run.net_now()).replace("\n", ";")
    if words[0] == "works":
        return str(run.works(words[1]))
    return values_shown(values_asked(run, words[0], words[1]))


def values_asked(run, word, name):
    if word == "lane":
        return run.lane_now(name)
    if word == "had":
        return run.had(name)
    if word == "taken":
        return run.taken(name)
    return left_of(run, name)


def left_of(run, door):
    left = run.rows_left()
    if door not in left:
        raise NoSuch(door)
    return left[door]


def answer_of_net(net, rows, words):
    if words[0] == "plain":
        return plain_shown(net, rows, words[1], words[2])
    if words[0] == "share":
        return share_shown(share(net))
    if words[0] == "limits":
        return values_shown(limits(share(net), words[1], words[2]))
    return more_shown(net, plan(net, words[1], words[2])[0])


def plain_shown(net, rows, lane, most):
    net.need_lane_name(lane)
    return values_shown(plain_rows(net, rows, most)[lane])


def share_shown(paper):
    return "/".join(numbers_shown(paper[:2]))


def more_shown(net, more):
    return groups_shown([" ".join([lane, str(more[lane])]) for lane in net.lane_names() if lane in more])
