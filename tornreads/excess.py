"""By how much told values are beyond the end, or short of the begin."""

from tornreads.counters import size_of, value_of, weight_of
from tornreads.errors import Unfit
from tornreads.telling import is_full


def missed_places(counter, row, way):
    """The places that a pointer misses which goes along the row by way, from the greatest place down."""
    along = row if way == "down" else turned(row)
    return tuple([place for place, _, caught in catches(counter, along) if caught is None])


def worst_beyond(counter, row):
    """The greatest of told value less end over all runs whose words agree, at least 0."""
    return worst(counter, row, "down")


def worst_short(counter, row):
    """The greatest of begin less told value over all runs whose words agree, at least 0."""
    return worst(counter, row, "up")


def beyond_run(counter, row):
    """A run whose word agrees, as far beyond the end as can be; None if none is beyond."""
    if worst_beyond(counter, row) == 0:
        return None
    digits = [[0] * len(counter) for lot in row]
    for place, begun, caught in catches(counter, row):
        # Nobody reads the place while its digit is 0; and where it falls to 0 a greater one is caught, and rises.
        for read in range(len(row)):
            if read < begun or caught is not None and read >= caught:
                digits[read][place] = counter[place] - 1
    return tuple([value_of(counter, tuple(figures)) for figures in digits])


def short_run(counter, row):
    """A run whose word agrees, as far short of the begin as can be; None if none is short."""
    # Values turned about go ahead in the contrary order, and what is short becomes what is beyond.
    run = beyond_run(counter, turned(row))
    if run is None:
        return None
    greatest = size_of(counter) - 1
    return tuple([greatest - number for number in turned(run)])


def worst(counter, row, way):
    """What the missed places of way come to."""
    if not is_full(counter, row):
        raise Unfit()
    return sum([(counter[place] - 1) * weight_of(counter, place) for place in missed_places(counter, row, way)])


def catches(counter, row):
    """For each place, ascending: the read at which the pointer stood, and that which caught it, None if none did."""
    found = []
    pointer = 0
    for place in reversed(range(len(counter))):
        having = [read for read in range(pointer, len(row)) if place in row[read]]
        caught = having[0] if having else None
        found.append((place, pointer, caught))
        pointer = pointer if caught is None else caught
    return turned(found)


def turned(items):
    """The items in contrary order."""
    return tuple(reversed(items))
