"""Ways from name to name, and the rings that they come to."""


# A name that leads nowhere is no key, so a way ends there.
def gone_round(start, leads):
    seen = []
    at = start
    while at in leads and at not in seen:
        seen.append(at)
        at = leads[at]
    return seen[seen.index(at):] if at in seen else []


# Gone against the arcs: each name of into has one arc to it there, but perhaps several or none away from it.
def ring_into(start, into):
    leads = {}
    for name in into:
        leads[name] = into[name][0]
    return [into[name] for name in reversed(gone_round(start, leads))]
