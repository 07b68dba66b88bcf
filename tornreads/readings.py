"""Logs: readings of one counter, one behind another, and what they tell together."""

from tornreads.bounds import MAX_READINGS
from tornreads.kinds import is_tuple_of
from tornreads.rows import row_error, word_error
from tornreads.sureness import outer_runs


def log_error(counter, value):
    """None if value is a log of counter, otherwise what is wrong with it."""
    if not is_tuple_of(value, 1, MAX_READINGS):
        return "form"
    for k, reading in enumerate(value):
        error = reading_error(counter, reading)
        if error is not None:
            return ("reading", k, error)
    return None


def joined_log(counter, log):
    """The row of all reads of log, and the word of all its sights, in order."""
    lots, sights = [], []
    for row, word in log:
        lots.extend(row)
        sights.extend(word)
    return (tuple(lots), tuple(sights))


def log_windows(counter, log):
    """For each reading its least and greatest begin, its least and greatest end over all runs that read log."""
    least, greatest = outer_joined(counter, log)
    return tuple([(least[begin], greatest[begin], least[end], greatest[end]) for begin, end in spans_of(log)])


def log_sures(counter, log):
    """For each reading the first and the last value that surely stood while it was made, or None."""
    windows = log_windows(counter, log)
    return tuple([(begin, end) if begin <= end else None for _, begin, end, _ in windows])


def now_of(counter, log):
    """The least and the greatest value that the counter can have had at the last read of log."""
    least, greatest = outer_joined(counter, log)
    return (least[-1], greatest[-1])


def most_gone(counter, log, first, second):
    """How far the counter can have gone on from the end of the reading first to the begin of second."""
    least, greatest = outer_joined(counter, log)
    spans = spans_of(log)
    _, end = spans[first]
    begin, _ = spans[second]
    return greatest[begin] - least[end]


def reading_error(counter, value):
    """None if value is a reading of counter, otherwise what is wrong with it."""
    if not is_tuple_of(value, 2, 2):
        return "form"
    row, word = value
    error = row_error(counter, row)
    if error is not None:
        return ("row", error)
    error = word_error(counter, row, word)
    return None if error is None else ("word", error)


def outer_joined(counter, log):
    """The least and the greatest run of the joined row that read log."""
    row, word = joined_log(counter, log)
    return outer_runs(counter, row, word)


def spans_of(log):
    """For each reading the numbers of its first and of its last read in the joined row."""
    spans = []
    begin = 0
    for row, _ in log:
        spans.append((begin, begin + len(row) - 1))
        begin += len(row)
    return spans
