"""Whether each ring of arcs lets so much through: times that show it, or a ring that lets less through."""

from holdlane.ways import ring_into


# A way that comes to no part twice has fewer arcs than there are parts. So a time that still grows in as many rounds
# as there are parts has grown by a ring, and going back from it by the arcs that made times grow, one comes to one.
def times_or_ring(names, arcs, wish):
    times = {}
    for name in names:
        times[name] = 0
    into = {}
    grown = []
    for count in range(len(names)):
        grown = grow_times(times, into, arcs, wish)
        if len(grown) == 0:
            return ("times", times)
    return ("ring", ring_into(grown[0], into))


def grow_times(times, into, arcs, wish):
    grown = []
    for arc in arcs:
        least = times[arc[0]] + wish[0] - wish[1] * arc[2]
        if times[arc[1]] < least:
            times[arc[1]] = least
            into[arc[1]] = arc
            grown.append(arc[1])
    return grown
