"""What readers tell while a table goes on from state to state."""

from tornreads.tableruns import signs_at


def tells_in(table, reader, life):
    """Each value that reader tells in life, with the moments of the first and of the last look that led to it."""
    told = []
    node, first = reader, 0
    for moment, state in enumerate(life):
        node = node_behind(table, node, state)
        if node[0] == "tell":
            told.append((node[1], first, moment))
        if node[0] != "look":
            node, first = reader, moment + 1
    return tuple(told)


def node_behind(table, node, state):
    """The node that comes behind the look of node, if it is made in state."""
    _, lot, branches = node
    seen = signs_at(table, lot, state)
    for sight, below in branches:
        if sight == seen:
            return below
    return ("again",)
