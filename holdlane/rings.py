"""Ranks that show that no ring of arcs is without tokens, or such a ring."""

from holdlane.arcs import arcs_of
from holdlane.ways import ring_into


def ranks_or_ring(net):
    bare = [arc for arc in arcs_of(net) if arc[2] == 0]
    names = net.part_names()
    ranks = ranks_by(names, bare)
    left = [name for name in names if name not in ranks]
    return ("ranks", ranks) if len(left) == 0 else ("ring", ring_among(left, bare))


# A part without rank in the end has a bare arc to it from another such part, or from itself.
def ranks_by(names, bare):
    ranks = {}
    for rank in range(len(names)):
        bound = [arc[1] for arc in bare if arc[0] not in ranks]
        free = [name for name in names if name not in ranks and name not in bound]
        for name in free:
            ranks[name] = rank
    return ranks


# Each of these parts is sure to have an arc to it from one of them, so the way against the arcs never ends.
def ring_among(names, bare):
    into = {}
    for arc in bare:
        if arc[0] in names:
            into[arc[1]] = arc
    return ring_into(names[0], into)
