"""Who waits for whom in a run as it stands."""

from holdlane.ways import gone_round


# None where the part can work.
def wait_of(run, name):
    lane = run.flow.lacking(name)
    if lane is not None:
        return (name, lane, "value")
    if run.flow.row_ended(name):
        return (name, "", "end")
    lane = run.full_lane(run.flow.deed(name))
    return None if lane is None else (name, lane, "room")


def waits_of(run):
    waits = [wait_of(run, name) for name in run.net.part_names()]
    return [wait for wait in waits if wait is not None]


def leads_to(net, wait):
    if wait[2] == "value":
        return net.giver_of(wait[1])
    if wait[2] == "room":
        return net.taker_of(wait[1])
    return None


def ring_of_waits(run):
    waits = {}
    leads = {}
    for wait in waits_of(run):
        waits[wait[0]] = wait
        leads[wait[0]] = leads_to(run.net, wait)
    for name in run.net.part_names():
        ring = gone_round(name, leads)
        if len(ring) > 0:
            return [waits[part] for part in from_first(ring, run.net.part_names())]
    return []


def from_first(ring, names):
    place = ring.index([name for name in names if name in ring][0])
    return ring[place:] + ring[:place]


def stopped(run):
    return not any([run.can_work(name) for name in run.net.part_names()])
