"""Readers, whose looks hang on what they saw, and whether what they tell is sure."""

from tornreads.bounds import MAX_LOOKS, MAX_NODES, MAX_SIGN, MAX_VALUE
from tornreads.errors import NoRun
from tornreads.kinds import is_between, is_tuple_of
from tornreads.tableruns import greatest_states, least_states, table_sure
from tornreads.tables import is_lot


def reader_error(table, value):
    """None if value is a reader over table, otherwise what is wrong with it, and on what way."""
    nodes = nodes_of(value)
    if len(nodes) > MAX_NODES:
        return ("many", ())
    for way, node in nodes:
        word = node_error(table, way, node)
        if word is not None:
            return (word, way)
    return None


def paths_of(reader):
    """For each leaf the looks that lead to it, the word by which it is come to, and the leaf."""
    return tuple(paths_below(reader, (), ()))


def wrong_path(table, speed, reader):
    """The number of a leaf that tells what is not sure, and a run that shows it; None if reader is right."""
    for number, (looks, word, leaf) in enumerate(paths_of(reader)):
        if leaf[0] == "tell":
            run = run_against(table, speed, looks, word, leaf[1])
            if run is not None:
                return (number, run)
    return None


def filled_reader(table, speed, reader):
    """The reader with the same looks and sights that tells the least sure value wherever one is."""
    return filled_node(table, speed, reader, (), ())


def nodes_of(value):
    """The ways and the nodes of value, as they are gone through; of too many of them the first ones."""
    found = []
    left = [((), value)]
    while left and len(found) <= MAX_NODES:
        way, node = left.pop()
        found.append((way, node))
        if is_look(node):
            behind = [(way + (k,), pair[1]) for k, pair in enumerate(node[2]) if is_tuple_of(pair, 2, 2)]
            left.extend(behind[::-1])
    return found


def is_look(value):
    """Whether value has the form of a look, whatever its lot and its branches are."""
    return is_tuple_of(value, 3, 3) and value[0] == "look" and isinstance(value[2], tuple)


def node_error(table, way, node):
    """The word that applies to the node of this way, None if none does."""
    if is_look(node) and all([is_tuple_of(pair, 2, 2) for pair in node[2]]):
        return look_error(table, way, node)
    if way == () or not is_leaf(node):
        return "form"
    if node[0] == "tell" and not is_between(node[1], -MAX_VALUE, MAX_VALUE):
        return "tell"
    return None


def is_leaf(value):
    """Whether value has the form of a leaf, whatever it tells."""
    return value == ("again",) or (is_tuple_of(value, 2, 2) and value[0] == "tell")


def look_error(table, way, node):
    """The word that applies to a look of this way, None if none does."""
    _, lot, branches = node
    if len(way) >= MAX_LOOKS:
        return "deep"
    if not is_lot(table, lot):
        return "lot"
    sights = [sight for sight, _ in branches]
    if not all([is_sight(lot, sight) for sight in sights]):
        return "sight"
    if any([sights[k] <= sights[k - 1] for k in range(1, len(sights))]):
        return "order"
    return None


def is_sight(lot, value):
    """Whether value is a tuple of as many signs as lot has cells."""
    return is_tuple_of(value, len(lot), len(lot)) and all([is_between(sign, 0, MAX_SIGN) for sign in value])


def paths_below(node, looks, word):
    """The paths to all leaves below node, told the looks and the word that lead to it."""
    if node[0] != "look":
        return [(looks, word, node)]
    _, lot, branches = node
    found = []
    for sight, below in branches:
        found.extend(paths_below(below, looks + (lot,), word + (sight,)))
    return found


def run_against(table, speed, looks, word, value):
    """A run that reads word and in which value does not lie from begin to end, None if there is none."""
    least = least_states(table, speed, looks, word)
    if least is None:
        return None
    # If value lies in the run that ends least and in the one that begins last it lies in all.
    greatest = greatest_states(table, speed, looks, word)
    if value > table[1][least[-1]]:
        return least
    return greatest if value < table[1][greatest[0]] else None


def filled_node(table, speed, node, looks, word):
    """What takes the place of node, told the looks and the word that lead to it."""
    if node[0] != "look":
        return filled_leaf(table, speed, looks, word)
    _, lot, branches = node
    filled = []
    for sight, below in branches:
        filled.append((sight, filled_node(table, speed, below, looks + (lot,), word + (sight,))))
    return ("look", lot, tuple(filled))


def filled_leaf(table, speed, looks, word):
    """The leaf that tells the least value that is sure for word, or gives up where none is."""
    try:
        sure = table_sure(table, speed, looks, word)
    except NoRun:
        return ("again",)
    return ("again",) if sure is None else ("tell", sure[0])
