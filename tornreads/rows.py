"""Rows of reads, the words that are read by them, and runs of values that go through them."""

from tornreads.bounds import MAX_READS
from tornreads.counters import lot_error, sight_error, size_of
from tornreads.kinds import is_between, is_tuple_of


def row_error(counter, value):
    """None if value is a row of counter, otherwise what is wrong with it."""
    if not is_tuple_of(value, 1, MAX_READS):
        return "form"
    for k, lot in enumerate(value):
        error = lot_error(counter, lot)
        if error is not None:
            return ("lot", k, error)
    return None


def word_error(counter, row, value):
    """None if value is a word of row, otherwise what is wrong with it."""
    if not is_tuple_of(value, len(row), len(row)):
        return "form"
    for k, lot in enumerate(row):
        error = sight_error(counter, lot, value[k])
        if error is not None:
            return ("sight", k, error)
    return None


def run_error(counter, row, value):
    """None if value is a run of row, otherwise what is wrong with it."""
    if not is_tuple_of(value, len(row), len(row)):
        return "form"
    greatest = size_of(counter) - 1
    for k, number in enumerate(value):
        if not is_between(number, 0, greatest):
            return ("value", k)
    for k in range(1, len(value)):
        if value[k] < value[k - 1]:
            return ("less", k)
    return None
