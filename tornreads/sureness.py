"""What is sure of a counter when a word was read."""

from tornreads.counters import sight_of
from tornreads.errors import NoRun
from tornreads.runs import greatest_run, least_run, stuck_at


def window_of(counter, row, word):
    """The least and the greatest begin, the least and the greatest end of the runs that read word."""
    least, greatest = outer_runs(counter, row, word)
    return (least[0], greatest[0], least[-1], greatest[-1])


def sure_of(counter, row, word):
    """The first and the last value that lie from begin to end in every run that reads word, or None."""
    least, greatest = outer_runs(counter, row, word)
    return (greatest[0], least[-1]) if greatest[0] <= least[-1] else None


def two_apart(counter, row, word):
    """Two runs that read word, the first one over ahead of the second one, or None."""
    least, greatest = outer_runs(counter, row, word)
    return (least, greatest) if least[-1] < greatest[0] else None


def stood_at(counter, row, word, number):
    """Whether number lies from begin to end "surely", "perhaps" or "never" in runs that read word."""
    least, greatest = outer_runs(counter, row, word)
    if greatest[0] <= number <= least[-1]:
        return "surely"
    if number < least[0] or number > greatest[-1]:
        return "never"
    # A run of one read has one value alone: none lies between begin and end.
    if len(row) == 1 and sight_of(counter, row[0], number) != word[0]:
        return "never"
    return "perhaps"


def outer_runs(counter, row, word):
    """The least and the greatest run that read word."""
    place = stuck_at(counter, row, word)
    if place is not None:
        raise NoRun(place)
    return least_run(counter, row, word), greatest_run(counter, row, word)
