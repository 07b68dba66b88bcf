"""A5, A6 and A9: counters, digits, lots and sights."""

import unittest

from tests.helper import ODD_VALUES, all_lots, check_calls, plain_digits
from tornreads.counters import (
    counter_error, digits_of, lot_error, sight_error, sight_of, size_of, value_of, weight_of,
)

GREAT = (10 ** 6,) * 12
MIXED = (2, 10 ** 6, 3, 999999, 7, 60, 60, 24, 365, 2, 11, 100)
SMALL = ((2,), (7,), (2, 2), (3, 4, 2), (2, 3, 4), (5, 2, 3), (2, 2, 2, 2), (3, 2, 2, 4))


class CounterErrorTest(unittest.TestCase):

    def check(self, value, due):
        with self.subTest(value=value):
            self.assertEqual(repr(counter_error(value)), repr(due))

    def test_how_many_places(self):
        self.check((), "form")
        for many in range(1, 13):
            self.check((10,) * many, None)
        for many in (13, 14, 4000):
            self.check((10,) * many, "form")
        self.check((0,) * 13, "form")

    def test_bases(self):
        for base in (2, 3, 10, 60, 999999, 10 ** 6):
            self.check((base,), None)
            self.check((2, base, 10 ** 6), None)
        wrong = (1, 0, -1, -2, 10 ** 6 + 1, 10 ** 399, True, False, "2", "60", None, (), (2,), [2], {}, {2: 2})
        for base in wrong:
            self.check((base,), ("base", 0))
            self.check((60, base), ("base", 1))
            self.check((2,) * 11 + (base,), ("base", 11))
            self.check((60, base, 24), ("base", 1))

    def test_the_first_of_two_wrong_bases(self):
        self.check((1, 0), ("base", 0))
        self.check((60, "x", 24, 1), ("base", 1))
        self.check((60, 60, None, True), ("base", 2))
        self.check((1,) * 13, "form")

    def test_no_tuples(self):
        for value in ([60, 60], {60: 60}, "60", 60, None, True, [], {}, ""):
            self.check(value, "form")

    def test_any_values(self):
        wrong = {value: counter_error(value) for value in ODD_VALUES if isinstance(value, (str, int))}
        self.assertEqual(set(wrong.values()), {"form"})
        check_calls(self, counter_error, ("value",), [(value,) for value in ODD_VALUES])


class DigitsTest(unittest.TestCase):

    def test_sizes_and_weights(self):
        self.assertEqual(size_of(GREAT), 10 ** 72)
        self.assertEqual([weight_of(GREAT, place) for place in range(12)], [10 ** (6 * place) for place in range(12)])
        for counter in SMALL + (MIXED,):
            weight = 1
            for place, base in enumerate(counter):
                self.assertEqual(weight_of(counter, place), weight)
                weight *= base
            self.assertEqual(size_of(counter), weight)
        self.assertEqual(size_of((2,)), 2)

    def test_all_values_of_small_counters(self):
        for counter in SMALL:
            every = plain_digits(counter)
            self.assertEqual(len(every), size_of(counter))
            for number, digits in enumerate(every):
                with self.subTest(counter=counter, number=number):
                    self.assertEqual(digits_of(counter, number), digits)
                    self.assertEqual(value_of(counter, digits), number)

    def test_there_and_back_in_great_counters(self):
        for counter in (GREAT, MIXED, (10 ** 6,), (2,) * 12):
            size = size_of(counter)
            for number in (0, 1, size // 3, size // 2, size // 2 + 1, 2 * size // 3, size - 2, size - 1):
                with self.subTest(counter=counter, number=number):
                    digits = digits_of(counter, number)
                    self.assertIs(type(digits), tuple)
                    self.assertEqual(len(digits), len(counter))
                    for place, digit in enumerate(digits):
                        self.assertIn(digit, range(counter[place]))
                    summed = sum(digit * weight_of(counter, place) for place, digit in enumerate(digits))
                    self.assertEqual(summed, number)
                    self.assertEqual(value_of(counter, digits), number)
                    self.assertEqual(digits_of(counter, value_of(counter, digits)), digits)

    def test_ends_of_great_counters(self):
        self.assertEqual(digits_of(GREAT, 0), (0,) * 12)
        self.assertEqual(digits_of(GREAT, 10 ** 72 - 1), (999999,) * 12)
        self.assertEqual(value_of(GREAT, (0,) * 11 + (1,)), 10 ** 66)
        self.assertEqual(digits_of(GREAT, 123456 * 10 ** 36 + 7), (7, 0, 0, 0, 0, 0, 123456, 0, 0, 0, 0, 0))

    def test_the_greatest_unlike_digit_tells_the_greater_value(self):
        for counter in SMALL:
            every = plain_digits(counter)
            for one in every:
                for other in every:
                    less = tuple(reversed(one)) < tuple(reversed(other))
                    self.assertEqual(value_of(counter, one) < value_of(counter, other), less)


class LotTest(unittest.TestCase):

    def check(self, counter, value, due):
        with self.subTest(counter=counter, value=value):
            self.assertEqual(repr(lot_error(counter, value)), repr(due))

    def test_all_lots(self):
        for counter in SMALL:
            for lot in all_lots(counter):
                self.check(counter, lot, None)
        self.check(GREAT, tuple(range(12)), None)
        self.check(GREAT, (11,), None)

    def test_forms(self):
        for value in ((), [], [0], [0, 1], {0: 1}, "0", 0, None, True, {}):
            self.check((60, 60, 24), value, "form")

    def test_places(self):
        clock = (60, 60, 24)
        for place in (3, 4, -1, -3, 10 ** 6, 10 ** 399, True, False, "0", None, (0,), [0], {}):
            self.check(clock, (place,), ("place", 0))
        for place in (0, 3, 4, -1, True, "1", None, (1,)):
            self.check(clock, (0, place), ("place", 1))
        self.check(clock, (0, 2, True), ("place", 2))
        self.check(GREAT, (12,), ("place", 0))
        self.check((2,), (1,), ("place", 0))

    def test_order(self):
        clock = (60, 60, 24)
        self.check(clock, (1, 0), ("place", 1))
        self.check(clock, (2, 1, 0), ("place", 1))
        self.check(clock, (0, 2, 1), ("place", 2))
        self.check(clock, (0, 0), ("place", 1))
        self.check(clock, (0, 1, 1), ("place", 2))
        self.check(clock, (0, 1, 2, 2), ("place", 3))
        self.check(clock, (0, 1, 2, 3), ("place", 3))
        self.check((2,) * 4, (0, 1, 3, 2), ("place", 3))

    def test_the_first_of_two_faults(self):
        clock = (60, 60, 24)
        self.check(clock, (2, 1, "x"), ("place", 1))
        self.check(clock, (5, 1), ("place", 0))
        self.check(clock, (1, 7, 0), ("place", 1))
        self.check(clock, (0,) * 4000, ("place", 1))


class SightTest(unittest.TestCase):

    def check(self, counter, lot, value, due):
        with self.subTest(counter=counter, lot=lot, value=value):
            self.assertEqual(repr(sight_error(counter, lot, value)), repr(due))

    def test_all_values_show_sights(self):
        for counter in SMALL:
            for lot in all_lots(counter):
                for number, digits in enumerate(plain_digits(counter)):
                    sight = sight_of(counter, lot, number)
                    self.assertEqual(sight, tuple([digits[place] for place in lot]))
                    self.assertIsNone(sight_error(counter, lot, sight))

    def test_great_counters(self):
        number = 5 + 8 * 10 ** 30 + 999999 * 10 ** 66
        self.assertEqual(sight_of(GREAT, (0, 5, 6, 11), number), (5, 8, 0, 999999))
        self.assertEqual(sight_of(GREAT, tuple(range(12)), number), (5, 0, 0, 0, 0, 8, 0, 0, 0, 0, 0, 999999))
        self.check(GREAT, (0, 11), (999999, 999999), None)
        self.check(GREAT, (0, 11), (999999, 10 ** 6), ("digit", 1))

    def test_forms(self):
        for value in ((), (1,), (1, 2, 3), [1, 2], "12", None, 12, {1: 2}, True):
            self.check((60, 60, 24), (0, 2), value, "form")
        self.check((60, 60, 24), (0, 1, 2), (1, 2), "form")
        self.check((60, 60, 24), (0,), (1, 99), "form")

    def test_digits(self):
        clock = (60, 61, 24)
        self.check(clock, (1, 2), (60, 23), None)
        self.check(clock, (0, 2), (0, 0), None)
        for digit in (61, 62, -1, 10 ** 399, True, False, "1", None, (1,), [1]):
            self.check(clock, (1, 2), (digit, 23), ("digit", 0))
            self.check(clock, (1, 2), (digit, 24), ("digit", 0))
            self.check(clock, (0, 1, 2), (59, digit, 23), ("digit", 1))
        for digit in (24, -1, True, "x"):
            self.check(clock, (1, 2), (60, digit), ("digit", 1))
            self.check(clock, (2,), (digit,), ("digit", 0))


class CallsTest(unittest.TestCase):

    def test_calls(self):
        clock = (60, 60, 24)
        check_calls(self, size_of, ("counter",), [(clock,), (GREAT,)])
        check_calls(self, weight_of, ("counter", "place"), [(clock, 0), (clock, 2), (GREAT, 11)])
        check_calls(self, digits_of, ("counter", "number"), [(clock, 18479), (GREAT, 10 ** 71 + 3)])
        check_calls(self, value_of, ("counter", "digits"), [(clock, (59, 7, 5)), (GREAT, (3,) * 12)])
        check_calls(self, lot_error, ("counter", "value"), [(clock, value) for value in ODD_VALUES])
        check_calls(self, sight_of, ("counter", "lot", "number"), [(clock, (0, 2), 18479), (GREAT, (4,), 10 ** 25)])
        check_calls(self, sight_error, ("counter", "lot", "value"), [(clock, (0,), value) for value in ODD_VALUES])


if __name__ == "__main__":
    unittest.main()
