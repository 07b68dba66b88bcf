"""Rows by which something is sure whatever is read, and what is lost by the others."""

from tornreads.counters import value_of, weight_of
from tornreads.errors import Unfit
from tornreads.ladders import ladder_of
from tornreads.runs import word_of


def always_sure(counter, row):
    """Whether each word that some run of row reads leaves a value sure."""
    check_bases(counter)
    return ladder_of(counter, row, "mirror") is not None


def lost_word(counter, row):
    """A word and two runs that read it, the first one over ahead of the second one; None if row is always sure."""
    check_bases(counter)
    runs = runs_apart(counter, row, len(counter) - 1)
    if runs is None:
        return None
    first, second = runs
    return (word_of(counter, row, first), tuple(first), tuple(second))


def settled_value(counter, first, second):
    """A value that stood between the digits first, read going down, and second, read going up."""
    settled = list(first)
    for place in reversed(range(len(counter))):
        if first[place] > second[place]:
            raise Unfit()
        if first[place] < second[place]:
            settled[:place + 1] = [0] * place + [second[place]]
            break
    return value_of(counter, tuple(settled))


def check_bases(counter):
    """Raises Unfit if a base above the least place is 2."""
    if 2 in counter[1:]:
        raise Unfit()


def runs_apart(counter, row, place):
    """Two runs of the places up to place alone, which read alike, the first one over ahead of the second one.

    None if these places have a mirror in row.
    """
    weight = weight_of(counter, place)
    having = [read for read, lot in enumerate(row) if place in lot]
    if having == []:
        return [0] * len(row), [weight] * len(row)
    if place == 0:
        return None
    inner = runs_apart(counter, row[having[0]:having[-1] + 1], place - 1)
    if inner is None:
        return None
    one, other = inner
    # Reads that do not have place let one run begin a digit lower, and the other one end a digit higher.
    ahead, behind = having[0], len(row) - 1 - having[-1]
    end, begin = one[-1] + weight, other[0] + weight
    first = [begin - weight] * ahead + [number + weight for number in one] + [end] * behind
    second = [begin] * ahead + [number + weight for number in other] + [end + weight] * behind
    return first, second
