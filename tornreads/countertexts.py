"""Texts of counters and of their values."""

from tornreads.counters import counter_error, digits_of, value_of
from tornreads.errors import BadCounter, BadText

FIGURES = "0123456789"
MOST_FIGURES = 7


def counter_text(counter):
    """The text of counter: its bases, that of the greatest place first."""
    return ":".join([str(base) for base in reversed(counter)])


def read_counter(value):
    """The counter of which value is the text."""
    if not isinstance(value, str):
        raise BadText(0)
    stop = numbers_stop(value)
    if stop is not None:
        raise BadText(stop)
    counter = tuple([int(number) for number in reversed(value.split(":"))])
    error = counter_error(counter)
    if error is not None:
        raise BadCounter(error)
    return counter


def numbers_stop(text):
    """Where text stops to be numbers with ":" between two, None if it is nothing else."""
    figures = 0
    for at, sign in enumerate(text):
        if sign == ":" and figures > 0:
            figures = 0
        elif may_follow(figures, sign):
            figures += 1
        else:
            return at
    return None if figures > 0 else len(text)


def may_follow(figures, sign):
    """Whether sign may be the next figure of a number that has so many figures."""
    if sign == "0":
        return 0 < figures < MOST_FIGURES
    return sign in FIGURES and figures < MOST_FIGURES


def value_text(counter, number):
    """The text of the value number: its digits, that of the greatest place first."""
    words = []
    for base, digit in reversed(list(zip(counter, digits_of(counter, number)))):
        words.append(str(digit).zfill(width_of(base)))
    return ":".join(words)


def width_of(base):
    """How many figures each digit of a place with this base is written with."""
    return len(str(base - 1))


def read_value(counter, value):
    """The value of counter of which value is the text."""
    if not isinstance(value, str):
        raise BadText(0)
    digits = []
    at = 0
    for base in reversed(counter):
        if at > 0:
            expect_colon(value, at)
            at += 1
        digits.append(read_digit(value, at, base))
        at += width_of(base)
    if at < len(value):
        raise BadText(at)
    return value_of(counter, tuple(reversed(digits)))


def expect_colon(text, at):
    """Raises BadText if no ":" stands in text at this place."""
    if at == len(text) or text[at] != ":":
        raise BadText(at)


def read_digit(text, at, base):
    """The digit of a place with this base that stands in text from at on."""
    behind = at + width_of(base)
    for k in range(at, behind):
        if k == len(text) or text[k] not in FIGURES:
            raise BadText(k)
    digit = int(text[at:behind])
    if digit >= base:
        raise BadText(at)
    return digit
