"""Arcs: how often a part may have worked at most, by how often another one has."""

from holdlane.errors import NotCalm


def arcs_of(net):
    if net.odd() is not None:
        raise NotCalm(net.odd())
    arcs = []
    for lane in net.lane_names():
        arcs.extend(arcs_of_lane(net, lane))
    return arcs + [(name, name, 1, "", "again") for name in net.part_names()]


def arcs_of_lane(net, lane):
    giver = net.giver_of(lane)
    taker = net.taker_of(lane)
    many = len(net.first_of(lane))
    return [(giver, taker, many, lane, "along"), (taker, giver, net.room_of(lane) - many, lane, "against")]
