"""Counters, their values and digits; lots of their places, and sights of lots."""

from tornreads.bounds import MAX_BASE, MAX_PLACES
from tornreads.kinds import is_between, is_tuple_of


def counter_error(value):
    """None if value is a counter, otherwise what is wrong with it."""
    if not is_tuple_of(value, 1, MAX_PLACES):
        return "form"
    for place, base in enumerate(value):
        if not is_between(base, 2, MAX_BASE):
            return ("base", place)
    return None


def size_of(counter):
    """How many values counter has."""
    size = 1
    for base in counter:
        size *= base
    return size


def weight_of(counter, place):
    """By how much a value rises with the digit at place."""
    return size_of(counter[:place])


def digits_of(counter, number):
    """The digits of the value number, that of the least place first."""
    digits = []
    left = number
    for base in counter:
        left, digit = divmod(left, base)
        digits.append(digit)
    return tuple(digits)


def value_of(counter, digits):
    """The value that has digits."""
    number = 0
    for base, digit in reversed(list(zip(counter, digits))):
        number = number * base + digit
    return number


def lot_error(counter, value):
    """None if value is a lot of counter, otherwise what is wrong with it."""
    if not isinstance(value, tuple) or len(value) == 0:
        return "form"
    least = 0
    for k, place in enumerate(value):
        if not is_between(place, least, len(counter) - 1):
            return ("place", k)
        least = place + 1
    return None


def sight_of(counter, lot, number):
    """The sight of lot that the value number shows."""
    digits = digits_of(counter, number)
    return tuple([digits[place] for place in lot])


def sight_error(counter, lot, value):
    """None if value is a sight of lot, otherwise what is wrong with it."""
    if not is_tuple_of(value, len(lot), len(lot)):
        return "form"
    for k, place in enumerate(lot):
        if not is_between(value[k], 0, counter[place] - 1):
            return ("digit", k)
    return None
