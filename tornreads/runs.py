"""What runs read, and the least and the greatest run that reads a word."""

from tornreads.counters import sight_of, size_of
from tornreads.going import ahead_from, back_to


def word_of(counter, row, run):
    """The word of row that run reads."""
    return tuple([sight_of(counter, lot, number) for lot, number in zip(row, run)])


def stuck_at(counter, row, word):
    """The first read to which no run comes that reads word so far, None if some run reads it all."""
    reached = len(least_values(counter, row, word))
    return None if reached == len(row) else reached


def least_run(counter, row, word):
    """Of all runs that read word the one that is least at each read, None if there are none."""
    found = least_values(counter, row, word)
    return tuple(found) if len(found) == len(row) else None


def greatest_run(counter, row, word):
    """Of all runs that read word the one that is greatest at each read, None if there are none."""
    found = []
    number = size_of(counter) - 1
    for lot, sight in reversed(list(zip(row, word))):
        number = back_to(counter, lot, sight, number)
        if number is None:
            return None
        found.append(number)
    return tuple(reversed(found))


def least_values(counter, row, word):
    """The least value at each read, of the first one on, as far as some run comes."""
    found = []
    number = 0
    for lot, sight in zip(row, word):
        number = ahead_from(counter, lot, sight, number)
        if number is None:
            return found
        found.append(number)
    return found
