"""Words that leave no value sure: runs that read alike and lie apart."""

from tornreads.bounds import MAX_SEARCH
from tornreads.errors import TooMany
from tornreads.tableruns import signs_at, table_word


def lost_in(table, speed, looks):
    """A word and two runs that read it, the values of the first one below those of the second one, or None."""
    if len(table[0]) > MAX_SEARCH:
        raise TooMany(MAX_SEARCH)
    runs = alike_apart(table, speed, looks)
    if runs is None:
        return None
    first, second = runs
    return (table_word(table, looks, first), first, second)


def alike_apart(table, speed, looks):
    """Two runs that read one word, the values of the first one below those of the second one, or None."""
    ways = ways_begun(table, looks[0])
    for lot in looks[1:]:
        ways = ways_behind(table, speed, lot, ways)
    return None if ways == {} else list(ways.values())[0]


def ways_begun(table, lot):
    """All pairs of runs of one look at lot that read alike and lie apart, by the states in which they are."""
    _, values = table
    states = range(len(values))
    return {
        (state, other): ((state,), (other,)) for state in states for other in states
        if values[state] < values[other] and signs_at(table, lot, state) == signs_at(table, lot, other)
    }


def ways_behind(table, speed, lot, ways):
    """Pairs of runs, by the states in which they are behind a further look at lot, told those ahead of it."""
    _, values = table
    halfway = {}
    for first, second in ways.values():
        for state in states_from(table, speed, first[-1]):
            if values[state] < values[second[0]]:
                keep_later(halfway, first + (state,), second)
    sights = [signs_at(table, lot, state) for state in range(len(values))]
    found = {}
    for first, second in halfway.values():
        for state in states_from(table, speed, second[-1]):
            if sights[state] == sights[first[-1]]:
                keep_later(found, first, second + (state,))
    return found


def states_from(table, speed, state):
    """The states to which one can go from state until the next look."""
    behind = len(table[0])
    if speed is not None:
        behind = min(behind, state + speed + 1)
    return list(range(state, behind))


def keep_later(ways, first, second):
    """Keeps the runs for the states in which they are if no second run that began as late is kept for these."""
    # From there on all pairs go alike, and the first run may go on until the second one's begin.
    states = (first[-1], second[-1])
    if states not in ways or ways[states][1][0] < second[0]:
        ways[states] = (first, second)
