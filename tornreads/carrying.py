"""Tables of counters, whose carry is written at once or place by place."""

from tornreads.bounds import MAX_STATES
from tornreads.counters import digits_of, size_of, weight_of
from tornreads.errors import TooMany


def counter_table(counter):
    """The table that has a state for each value of counter."""
    check_states(size_of(counter))
    values = tuple(range(size_of(counter)))
    return (tuple([digits_of(counter, number) for number in values]), values)


def carried_table(counter, way, elder):
    """The table that has a state for each place that is written when counter goes on, and one for 0."""
    size = size_of(counter)
    # A place is written at each multiple of its weight but 0.
    check_states(1 + sum([size // weight_of(counter, place) - 1 for place in range(len(counter))]))
    words, values = [digits_of(counter, 0)], [0]
    for number in range(1, size):
        carry = words_of_carry(counter, way, number)
        amid = number - 1 if elder else number
        words.extend(carry)
        values.extend([amid] * (len(carry) - 1) + [number])
    return (tuple(words), tuple(values))


def check_states(many):
    """Raises TooMany if a table may not have so many states."""
    if many > MAX_STATES:
        raise TooMany(MAX_STATES)


def words_of_carry(counter, way, number):
    """What the counter shows behind each place that is written when it goes on to number."""
    digits, due = list(digits_of(counter, number - 1)), digits_of(counter, number)
    places = [place for place in range(len(counter)) if digits[place] != due[place]]
    if way == "greatest":
        places = places[::-1]
    found = []
    for place in places:
        digits[place] = due[place]
        found.append(tuple(digits))
    return found
