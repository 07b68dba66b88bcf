"""H6: tables of counters, that are written at once or place by place."""

import itertools
import unittest

from tests.helper import check_calls, outcome, plain_digits, plain_size, raised, returned, rows_up_to
from tornreads.always import always_sure
from tornreads.carrying import carried_table, counter_table
from tornreads.errors import TooMany
from tornreads.lostwords import lost_in
from tornreads.tableruns import table_sure, table_word
from tornreads.tables import table_error

COUNTERS = (
    (2,), (3,), (10,), (199,), (200,), (2, 2), (3, 2), (2, 3), (10, 10), (10, 20), (2, 100), (100, 2), (2, 2, 2),
    (3, 4, 2), (5, 5, 5), (2, 9, 11), (2,) * 4, (2, 3, 4, 5), (2,) * 5, (3,) * 4, (2,) * 6, (2,) * 7, (2, 2, 2, 2, 12),
)
GREAT = ((201,), (202,), (10 ** 6,), (10, 21), (3, 67), (2, 101), (2,) * 8, (6, 6, 6), (2,) * 12, (10 ** 6,) * 12)
WAYS = tuple(itertools.product(("least", "greatest"), (True, False)))


def plain_carried(counter, way, elder):
    """The table of a counter whose carry is written place by place: by adding 1 where it stands, and going on."""
    digits = [0] * len(counter)
    words, values = [tuple(digits)], [0]
    for number in range(1, plain_size(counter)):
        place = 0
        writes = []
        while digits[place] == counter[place] - 1:
            writes.append((place, 0))
            place += 1
        writes.append((place, digits[place] + 1))
        if way == "greatest":
            writes.reverse()
        for place, digit in writes:
            digits[place] = digit
            words.append(tuple(digits))
            values.append(number - 1 if elder else number)
        values[-1] = number
    return tuple(words), tuple(values)


class CounterTableTest(unittest.TestCase):

    def test_beside_the_digits_of_all_values(self):
        for counter in COUNTERS:
            if plain_size(counter) <= 200:
                due = (tuple(plain_digits(counter)), tuple(range(plain_size(counter))))
                self.assertEqual(outcome(counter_table, counter), returned(due))
                self.assertIsNone(table_error(due))

    def test_too_many_states(self):
        for counter in GREAT:
            self.assertEqual(outcome(counter_table, counter), raised(TooMany(200)), counter)
        for first, second in itertools.product(range(2, 102), range(2, 102, 3)):
            came = outcome(counter_table, (first, second))
            self.assertEqual(came == raised(TooMany(200)), first * second > 200, (first, second))

    def test_what_is_lost_is_what_the_row_tells(self):
        for counter in ((3, 3), (2, 4), (5, 3)):
            for row in rows_up_to(counter, 3):
                self.assertEqual(lost_in(counter_table(counter), None, row) is None, always_sure(counter, row))


class CarriedTableTest(unittest.TestCase):

    def test_beside_plain_writing(self):
        for counter in COUNTERS:
            for way, elder in WAYS:
                due = plain_carried(counter, way, elder)
                if len(due[0]) <= 200:
                    self.assertIsNone(table_error(due))
                    self.assertEqual(outcome(carried_table, counter, way, elder), returned(due), (counter, way, elder))
                else:
                    self.assertEqual(outcome(carried_table, counter, way, elder), raised(TooMany(200)), counter)

    def test_carries_of_several_places(self):
        words, values = carried_table((2,) * 6, "least", True)
        half = [k for k in range(121) if values[k] == 31]
        self.assertEqual([words[k] for k in half], [
            (1, 1, 1, 1, 1, 0), (0, 1, 1, 1, 1, 0), (0, 0, 1, 1, 1, 0), (0, 0, 0, 1, 1, 0), (0, 0, 0, 0, 1, 0),
            (0, 0, 0, 0, 0, 0)])
        words, values = carried_table((2,) * 6, "greatest", False)
        half = [k for k in range(121) if values[k] == 32]
        self.assertEqual([words[k] for k in half], [
            (1, 1, 1, 1, 1, 1), (1, 1, 1, 1, 0, 1), (1, 1, 1, 0, 0, 1), (1, 1, 0, 0, 0, 1), (1, 0, 0, 0, 0, 1),
            (0, 0, 0, 0, 0, 1)])

    def test_just_two_hundred_states(self):
        for counter in ((200,), (66, 3), (2, 67)):
            for way, elder in WAYS:
                words, values = carried_table(counter, way, elder)
                self.assertEqual(len(words), len(values))
                self.assertEqual(len(words), 200)
                self.assertEqual(values[-1], plain_size(counter) - 1)
        for counter in ((201,), (100, 2)):
            for way, elder in WAYS:
                self.assertEqual(len(plain_carried(counter, way, elder)[0]), 201)
                self.assertEqual(outcome(carried_table, counter, way, elder), raised(TooMany(200)))

    def test_too_many_states(self):
        for counter in GREAT:
            for way, elder in WAYS:
                self.assertEqual(outcome(carried_table, counter, way, elder), raised(TooMany(200)), counter)
        for first, second in itertools.product(range(2, 102, 3), range(2, 102)):
            if first * second <= 220:
                many = len(plain_carried((first, second), "least", True)[0])
                came = outcome(carried_table, (first, second), "greatest", False)
                self.assertEqual(came == raised(TooMany(200)), many > 200, (first, second))

    def test_one_place_is_written_at_once(self):
        for way, elder in WAYS:
            self.assertEqual(carried_table((50,), way, elder), counter_table((50,)))

    def test_written_place_by_place_it_loses(self):
        both = ((0, 1),)
        self.assertIsNone(lost_in(counter_table((3, 3)), None, both))
        for way, elder in WAYS:
            table = carried_table((3, 3), way, elder)
            word, one, other = lost_in(table, 0, both)
            self.assertEqual((table_word(table, both, one), table_word(table, both, other)), (word, word))
            self.assertIsNone(table_sure(table, 0, both, word))

    def test_calls(self):
        counters = [((2, 2),), ((3, 2),), ((200,),), ((201,),), ((2,) * 8,)]
        check_calls(self, counter_table, ("counter",), counters)
        calls = [counter + pair for counter in counters for pair in WAYS]
        check_calls(self, carried_table, ("counter", "way", "elder"), calls)


if __name__ == "__main__":
    unittest.main()
