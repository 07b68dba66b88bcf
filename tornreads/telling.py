"""Full rows, words that agree, and the values that are put together from them."""

from tornreads.counters import value_of
from tornreads.errors import Unfit


def is_full(counter, row):
    """Whether each place of counter is read at least once."""
    met = [place for lot in row for place in lot]
    return all([place in met for place in range(len(counter))])


def is_agreed(counter, row, word):
    """Whether all digits that word has of one place are alike, place by place."""
    told = {}
    for place, digit in cells_of(row, word):
        if told.setdefault(place, digit) != digit:
            return False
    return True


def told_by(counter, row, word):
    """The value that is put together from the digits of word."""
    if not is_full(counter, row) or not is_agreed(counter, row, word):
        raise Unfit()
    told = dict(cells_of(row, word))
    return value_of(counter, tuple([told[place] for place in range(len(counter))]))


def cells_of(row, word):
    """Each place with its digit, as they stand in the reads of row, in order."""
    return [cell for lot, sight in zip(row, word) for cell in zip(lot, sight)]
