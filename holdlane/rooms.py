"""Room added to lanes, and plans that add just what a wished share needs."""

from holdlane.arcs import arcs_of
from holdlane.errors import BadRoom, BadWord, TooFast
from holdlane.nets import MOST_ROOM, Net
from holdlane.paces import times_or_ring
from holdlane.words import is_whole

MOST_BOTTOM = 1000


def with_rooms(net, more):
    for name in more:
        net.need_lane_name(name)
    for name in more:
        need_more(name, net.room_of(name), more[name])
    told = net.told()
    return Net([(name, room + more.get(name, 0), first) for name, room, first in told[0]], told[1])


def need_more(name, room, added):
    if not is_whole(added) or not 0 <= added <= MOST_ROOM - room:
        raise BadRoom(name)


def plan(net, top, bottom):
    need_wish(top, bottom)
    wish = (top, bottom)
    arcs = arcs_of(net)
    names = net.part_names()
    told = times_or_ring(names, [arc for arc in arcs if arc[4] != "against"], wish)
    if told[0] == "ring":
        raise TooFast(told[1])
    room = spared_room(names, arcs, enough_room(arcs, told[1], wish), wish)
    more = {}
    for lane in room:
        if room[lane] > 0:
            more[lane] = room[lane]
    return (more, [(lane, ring_without_one(names, arcs, more, lane, wish)) for lane in more])


def need_wish(top, bottom):
    if not is_whole(top) or not is_whole(bottom) or not 0 < top <= bottom <= MOST_BOTTOM:
        raise BadWord("a wish is two whole numbers, 0 < top <= bottom <= 1000")


# The times hold along the lanes; with this room they hold against them too, so no ring is slower than the wish.
def enough_room(arcs, times, wish):
    room = {}
    for arc in arcs:
        if arc[4] == "against":
            grown = times[arc[0]] + wish[0] - times[arc[1]]
            room[arc[3]] = max(0, (grown + wish[1] - 1) // wish[1] - arc[2])
    return room


# Less room never makes a ring faster: a place that can't be spared at its time can't be spared in the end either.
def spared_room(names, arcs, room, wish):
    left = dict(room)
    for lane in room:
        while left[lane] > 0 and len(ring_without_one(names, arcs, left, lane, wish)) == 0:
            left[lane] -= 1
    return left


# A ring that is slower than the wish when the lane has one place less; empty where there is none.
def ring_without_one(names, arcs, room, lane, wish):
    less = dict(room)
    less[lane] -= 1
    told = times_or_ring(names, [arc_with_room(arc, less) for arc in arcs], wish)
    return told[1] if told[0] == "ring" else []


def arc_with_room(arc, room):
    if arc[4] != "against":
        return arc
    return (arc[0], arc[1], arc[2] + room.get(arc[3], 0), arc[3], arc[4])
