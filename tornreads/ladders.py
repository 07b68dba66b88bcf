"""Ladders: the places in order, found in a row one behind another."""

from tornreads.kinds import is_between, is_tuple_of


def ladder_error(counter, row, way, value):
    """None if value is a ladder of way, otherwise what is wrong with it."""
    rungs = rungs_of(counter, way)
    if not is_tuple_of(value, len(rungs), len(rungs)):
        return "form"
    for k, read in enumerate(value):
        if not is_between(read, 0, len(row) - 1):
            return ("read", k)
    for k in range(1, len(value)):
        if value[k] < value[k - 1]:
            return ("less", k)
    for k, read in enumerate(value):
        if rungs[k] not in row[read]:
            return ("place", k)
    return None


def ladder_of(counter, row, way):
    """The ladder of way that takes for each rung the first read it can, None if there is none."""
    rungs = rungs_of(counter, way)
    found = []
    for read, lot in enumerate(row):
        reached = rungs_met(rungs, len(found), lot)
        found.extend([read] * (reached - len(found)))
    return tuple(found) if len(found) == len(rungs) else None


def rungs_of(counter, way):
    """The places in the order in which a ladder of way has them."""
    up = list(range(len(counter)))
    down = up[::-1]
    if way == "down":
        return down
    return up if way == "up" else down + up[1:]


def rungs_met(rungs, met, lot):
    """How many rungs have been met behind a read of lot, if met were ahead of it."""
    while met < len(rungs) and rungs[met] in lot:
        met += 1
    return met
