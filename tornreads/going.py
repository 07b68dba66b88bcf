"""Going on, and back, to values that show a sight, and counting these."""

from tornreads.counters import digits_of, sight_of, size_of, value_of
from tornreads.errors import Unfit


def ahead_from(counter, lot, sight, start):
    """The least value from start on that shows sight, None if there is none."""
    if start >= size_of(counter):
        return None
    if sight_of(counter, lot, start) == sight:
        return start
    told = dict(zip(lot, sight))
    digits = digits_of(counter, start)
    # Above the place where the answer parts from start its digits are those of start: so it parts
    # at no place below one whose digit start has wrong, and the least such place gives the least answer.
    wrong = max([place for place in lot if told[place] != digits[place]])
    for place in range(wrong, len(counter)):
        digit = told.get(place, digits[place] + 1)
        if digits[place] < digit < counter[place]:
            least = [told.get(lower, 0) for lower in range(place)]
            return value_of(counter, tuple(least + [digit]) + digits[place + 1:])
    return None


def back_to(counter, lot, sight, start):
    """The greatest value up to start that shows sight, None if there is none."""
    # With each digit exchanged for what it lacks of its greatest, going back is going ahead.
    greatest = size_of(counter) - 1
    mirrored = tuple([counter[place] - 1 - digit for place, digit in zip(lot, sight)])
    found = ahead_from(counter, lot, mirrored, greatest - start)
    return None if found is None else greatest - found


def how_many(counter, lot, sight, limit):
    """How many values below limit show sight."""
    free = free_places(counter, lot)
    bases = bases_at(counter, free)
    behind = ahead_from(counter, lot, sight, limit)
    if behind is None:
        return size_of(bases)
    # The digits that sight leaves free number the values that show it, in order.
    return value_of(bases, sight_of(counter, free, behind))


def nth_of(counter, lot, sight, number):
    """The value that shows sight, and below which just number values show it."""
    free = free_places(counter, lot)
    bases = bases_at(counter, free)
    if number >= size_of(bases):
        raise Unfit()
    told = dict(zip(lot, sight))
    for place, digit in zip(free, digits_of(bases, number)):
        told[place] = digit
    return value_of(counter, tuple([told[place] for place in range(len(counter))]))


def free_places(counter, lot):
    """The places of counter that are not in lot, ascending."""
    return tuple([place for place in range(len(counter)) if place not in lot])


def bases_at(counter, places):
    """The bases of counter at places."""
    return tuple([counter[place] for place in places])
