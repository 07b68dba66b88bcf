"""Tables: things that go ahead through any words, with any values; looks at their cells."""

from tornreads.bounds import MAX_CELLS, MAX_READS, MAX_SIGN, MAX_STATES, MAX_VALUE
from tornreads.counters import lot_error
from tornreads.kinds import is_between, is_tuple_of


def table_error(value):
    """None if value is a table, otherwise what is wrong with it."""
    if not is_tuple_of(value, 2, 2):
        return "form"
    words, values = value
    if not is_tuple_of(words, 1, MAX_STATES) or not is_tuple_of(values, len(words), len(words)):
        return "form"
    for k, word in enumerate(words):
        if not is_word(word) or len(word) != len(words[0]):
            return ("word", k)
    least = -MAX_VALUE
    for k, number in enumerate(values):
        if not is_between(number, least, MAX_VALUE):
            return ("value", k)
        least = number
    return None


def looks_error(table, value):
    """None if value is looks of the cells of table, otherwise what is wrong with it."""
    if not is_tuple_of(value, 1, MAX_READS):
        return "form"
    for k, lot in enumerate(value):
        if not is_lot(table, lot):
            return ("lot", k)
    return None


def is_word(value):
    """Whether value is a tuple of signs, as many as a table may have cells."""
    return is_tuple_of(value, 1, MAX_CELLS) and all([is_between(sign, 0, MAX_SIGN) for sign in value])


def is_lot(table, value):
    """Whether value is an ascending tuple of one cell of table or more."""
    # A word has a sign for each cell, as a counter has a base for each place: more is not asked of it here.
    return lot_error(table[0][0], value) is None
