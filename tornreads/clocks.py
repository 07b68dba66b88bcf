"""Clocks whose cells are read once each, in order."""

from tornreads.bounds import MAX_CELLS, MAX_CLOCK, MAX_SIZE, MAX_STATES
from tornreads.counters import size_of
from tornreads.errors import TooMany
from tornreads.kinds import is_between, is_tuple_of
from tornreads.lostwords import alike_apart
from tornreads.tableruns import table_sure


def sizes_error(value):
    """None if value are sizes, otherwise what is wrong with it."""
    if not is_tuple_of(value, 1, MAX_CELLS):
        return "form"
    for k, size in enumerate(value):
        if not is_between(size, 2, MAX_SIZE):
            return ("size", k)
    return None


def clock_error(sizes, value):
    """None if value is a clock of sizes, otherwise what is wrong with it."""
    if not is_tuple_of(value, 1, MAX_STATES):
        return "form"
    for k, word in enumerate(value):
        if not is_word(sizes, word):
            return ("word", k)
    return None


def torn_word(sizes, clock):
    """A word and two runs that read it, the first one over ahead of the second one; None if clock is right."""
    if len(clock) > MAX_CLOCK:
        raise TooMany(MAX_CLOCK)
    runs = alike_apart(clock_table(clock), None, clock_looks(sizes))
    if runs is None:
        return None
    first, second = runs
    return (tuple([clock[state][cell] for cell, state in enumerate(first)]), first, second)


def clock_sure(sizes, clock, word):
    """The first and the last state that lie from begin to end in every run that reads word, or None."""
    return table_sure(clock_table(clock), None, clock_looks(sizes), tuple([(sign,) for sign in word]))


def cut_bound(sizes):
    """The least of what cuts of the cells let a right clock have of states."""
    cuts = range(len(sizes) + 1)
    # Sizes have as many words as a counter of these bases has values.
    return min([size_of(sizes[:cut]) + size_of(sizes[cut:]) - 1 for cut in cuts])


def is_word(sizes, value):
    """Whether value is a word of sizes."""
    if not is_tuple_of(value, len(sizes), len(sizes)):
        return False
    return all([is_between(sign, 0, size - 1) for sign, size in zip(value, sizes)])


def clock_table(clock):
    """The table of the words of clock, with the numbers of the states as values."""
    return (clock, tuple(range(len(clock))))


def clock_looks(sizes):
    """The looks at one cell each, in order."""
    return tuple([(cell,) for cell in range(len(sizes))])
