"""Right clocks that are as long as can be, one nested in another."""

from tornreads.bounds import MAX_STATES
from tornreads.clocks import cut_bound
from tornreads.errors import TooMany, Unfit


def nested_clock(sizes):
    """A right clock of cut_bound(sizes) states, each word unlike the one ahead in one cell."""
    if sizes != sizes[::-1]:
        raise Unfit()
    if cut_bound(sizes) > MAX_STATES:
        raise TooMany(MAX_STATES)
    return tuple(nested_words(sizes))


def nested_words(sizes):
    """The words of such a clock, of no cells or more."""
    if sizes == ():
        return [()]
    if len(sizes) == 1:
        return [(sign,) for sign in range(sizes[0])]
    inner = nested_words(sizes[1:-1])
    words = []
    for outer in range(sizes[0]):
        if outer > 0:
            # The first cell goes ahead of the last one, while the inner ones stand.
            words.append((outer,) + words[-1][1:])
            inner = called_otherwise(sizes[1:-1], inner, words[-1][1:-1])
        words.extend([(outer,) + word + (outer,) for word in inner])
    return words


def called_otherwise(sizes, words, begin):
    """The words with other signs in their place, cell by cell, such that the first one is begin."""
    return [
        tuple([(sign + due - ahead) % size for sign, due, ahead, size in zip(word, begin, words[0], sizes)])
        for word in words
    ]
