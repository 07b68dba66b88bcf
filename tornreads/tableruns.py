"""Runs through the states of a table, the words that they read, and what these leave sure."""

from tornreads.errors import NoRun
from tornreads.kinds import is_between, is_tuple_of


def states_error(table, speed, looks, value):
    """None if value is a run of looks with this speed, otherwise what is wrong with it."""
    if not is_tuple_of(value, len(looks), len(looks)):
        return "form"
    for k, state in enumerate(value):
        if not is_between(state, 0, len(table[0]) - 1):
            return ("state", k)
    for k in range(1, len(value)):
        if value[k] < value[k - 1]:
            return ("less", k)
    for k in range(1, len(value)):
        if speed is not None and value[k] - value[k - 1] > speed:
            return ("speed", k)
    return None


def table_word(table, looks, states):
    """The word of looks that is read in states."""
    return tuple([signs_at(table, lot, state) for lot, state in zip(looks, states)])


def least_states(table, speed, looks, word):
    """The run that is least at each look of all that read word, None if there are none."""
    met = met_states(table, speed, looks, word)
    return None if len(met) < len(looks) else tuple([states[0] for states in met])


def greatest_states(table, speed, looks, word):
    """The run that is greatest at each look of all that read word, None if there are none."""
    met = met_states(table, speed, looks, word)
    return None if len(met) < len(looks) else tuple([states[-1] for states in met])


def table_sure(table, speed, looks, word):
    """The least and the greatest value that are sure when word was read, None if none is."""
    met = met_by_runs(table, speed, looks, word)
    begin, end = table[1][met[0][-1]], table[1][met[-1][0]]
    return (begin, end) if begin <= end else None


def table_apart(table, speed, looks, word):
    """Two runs that read word, the values of the first one below those of the second one, or None."""
    if table_sure(table, speed, looks, word) is not None:
        return None
    return (least_states(table, speed, looks, word), greatest_states(table, speed, looks, word))


def signs_at(table, lot, state):
    """The signs that the cells of lot show in state."""
    word = table[0][state]
    return tuple([word[cell] for cell in lot])


def met_by_runs(table, speed, looks, word):
    """For each look the states that some run which reads word has there, ascending."""
    met = met_states(table, speed, looks, word)
    if len(met) < len(looks):
        raise NoRun(len(met))
    return met


def met_states(table, speed, looks, word):
    """For each look the states that some run which reads word has there, ascending.

    If no run reads word there are fewer items: as many as the looks that some run comes through.
    """
    met = []
    for lot, sight in zip(looks, word):
        states = [state for state in range(len(table[0])) if signs_at(table, lot, state) == sight]
        if met != []:
            states = states_behind(met[-1], speed, states)
        if states == []:
            return met
        met.append(states)
    found = [met[-1]]
    for states in reversed(met[:-1]):
        found.append(states_ahead(states, speed, found[-1]))
    return found[::-1]


def states_behind(ahead, speed, states):
    """Those of states to which one of ahead can go until the next look; all ascending."""
    found = []
    lesser = 0
    for state in states:
        while lesser < len(ahead) and ahead[lesser] <= state:
            lesser += 1
        # Of those that are not above state the last one has the shortest way.
        if lesser > 0 and (speed is None or state - ahead[lesser - 1] <= speed):
            found.append(state)
    return found


def states_ahead(states, speed, behind):
    """Those of states that can go to one of behind until the next look; all ascending."""
    # Turned about, who goes back from behind goes ahead.
    return turned(states_behind(turned(behind), speed, turned(states)))


def turned(states):
    """The negatives of states, in contrary order."""
    return [-state for state in reversed(states)]
