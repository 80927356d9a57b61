"""Ways from name to name, and the rings that they come to."""


# A name that leads nowhere is no key, so a way ends there.
def gone_round(start, leads):
    seen = []
    at = start
    while at in leads and at not in seen:
        seen.append(at)
        at = leads[at]
    return seen[seen.index(at):] if at in seen else []
