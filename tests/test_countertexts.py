"""A7, A8 and A9: texts of counters and of values."""

import itertools
import re
import unittest

from tests.helper import ODD_VALUES, changed_texts, check_calls, outcome, raised, returned
from tornreads.countertexts import counter_text, read_counter, read_value, value_text
from tornreads.counters import counter_error, digits_of, size_of
from tornreads.errors import BadCounter, BadText

GREAT = (10 ** 6,) * 12
MIXED = (2, 10 ** 6, 3, 999999, 7, 60, 60, 24, 365, 2, 11, 100)
COUNTERS = ((2,), (10,), (11,), (10 ** 6,), (60, 60, 24), (3, 4, 2), (10, 11, 100, 101), (2,) * 12, GREAT, MIXED)
NO_STRINGS = [value for value in ODD_VALUES if not isinstance(value, str)]
PREFIX = re.compile("([1-9][0-9]{0,6}:)*([1-9][0-9]{0,6})?")


def plain_counter(text):
    """What read_counter has to come to, by asking of each beginning whether a right text may begin so."""
    for at in range(len(text)):
        if not PREFIX.fullmatch(text[:at + 1]):
            return raised(BadText(at))
    if text == "" or text.endswith(":"):
        return raised(BadText(len(text)))
    counter = tuple([int(number) for number in text.split(":")][::-1])
    error = counter_error(counter)
    return returned(counter) if error is None else raised(BadCounter(error))


def plain_value(counter, text):
    """What read_value has to come to, by asking sign by sign."""
    shape = []
    for base in reversed(counter):
        figures = len(str(base - 1))
        shape.extend([":"] * (shape != []) + [(base, figures, k) for k in range(figures)])
    for at, due in enumerate(shape):
        sign = text[at:at + 1]
        if sign != ":" if due == ":" else not re.fullmatch("[0-9]", sign):
            return raised(BadText(at))
        if due != ":" and due[2] == due[1] - 1 and int(text[at + 1 - due[1]:at + 1]) >= due[0]:
            return raised(BadText(at + 1 - due[1]))
    if len(text) > len(shape):
        return raised(BadText(len(shape)))
    number = 0
    for base, word in zip(reversed(counter), text.split(":")):
        number = number * base + int(word)
    return returned(number)


class CounterTextTest(unittest.TestCase):

    def check(self, text, due):
        with self.subTest(text=text):
            self.assertEqual(outcome(read_counter, text), due)

    def test_there_and_back(self):
        for counter in COUNTERS:
            with self.subTest(counter=counter):
                self.assertEqual(read_counter(counter_text(counter)), counter)
        self.assertEqual(counter_text(GREAT), ":".join(["1000000"] * 12))
        self.assertEqual(counter_text((2, 3, 40)), "40:3:2")

    def test_short_texts(self):
        for many in range(7):
            for signs in itertools.product("01:x", repeat=many):
                text = "".join(signs)
                self.assertEqual(outcome(read_counter, text), plain_counter(text), text)

    def test_changed_texts(self):
        for text in ("24:60:60", "2", "1000000:2", "7:1000000:99", "1234567:22"):
            for changed in changed_texts(text, "0159:; x-+.\n"):
                self.assertEqual(outcome(read_counter, changed), plain_counter(changed), changed)

    def test_places(self):
        self.check("", raised(BadText(0)))
        self.check(":", raised(BadText(0)))
        self.check(":24", raised(BadText(0)))
        self.check("24:", raised(BadText(3)))
        self.check("24:60:", raised(BadText(6)))
        self.check("24::60", raised(BadText(3)))
        self.check("0", raised(BadText(0)))
        self.check("024:60", raised(BadText(0)))
        self.check("24:060", raised(BadText(3)))
        self.check("24:0", raised(BadText(3)))
        self.check("24 :60", raised(BadText(2)))
        self.check(" 24:60", raised(BadText(0)))
        self.check("24:60 ", raised(BadText(5)))
        self.check("24:60\n", raised(BadText(5)))
        self.check("+24:60", raised(BadText(0)))
        self.check("24:-60", raised(BadText(3)))
        self.check("2_4:60", raised(BadText(1)))
        self.check("24;60", raised(BadText(2)))
        self.check("\u0662\u0664", raised(BadText(0)))
        self.check("2\u00b2", raised(BadText(1)))

    def test_figures(self):
        self.check("1000000", returned((1000000,)))
        self.check("1000001", raised(BadCounter(("base", 0))))
        self.check("9999999", raised(BadCounter(("base", 0))))
        self.check("10000000", raised(BadText(7)))
        self.check("12345678", raised(BadText(7)))
        self.check("24:12345678:60", raised(BadText(10)))
        self.check("1" * 20000, raised(BadText(7)))

    def test_bad_counters(self):
        self.check("1", raised(BadCounter(("base", 0))))
        self.check("24:1", raised(BadCounter(("base", 0))))
        self.check("1:24", raised(BadCounter(("base", 1))))
        self.check("1:24:1", raised(BadCounter(("base", 0))))
        self.check("1:2000000:24", raised(BadCounter(("base", 1))))
        self.check(":".join(["2"] * 12), returned((2,) * 12))
        self.check(":".join(["2"] * 13), raised(BadCounter("form")))
        self.check(":".join(["1"] * 13), raised(BadCounter("form")))
        self.check(":".join(["1"] * 10000), raised(BadCounter("form")))

    def test_two_faults(self):
        self.check("24:06x", raised(BadText(3)))
        self.check("2x:060", raised(BadText(1)))
        self.check("1:", raised(BadText(2)))
        self.check("1:x", raised(BadText(2)))
        self.check(":".join(["2"] * 13) + ":", raised(BadText(26)))
        self.check(":".join(["2"] * 13) + ":0", raised(BadText(26)))

    def test_no_strings(self):
        for value in NO_STRINGS + [24, ("24",), ["24:60"]]:
            self.check(value, raised(BadText(0)))


class ValueTextTest(unittest.TestCase):

    def check(self, counter, text, due):
        with self.subTest(counter=counter, text=text):
            self.assertEqual(outcome(read_value, counter, text), due)

    def some_values(self, counter):
        size = size_of(counter)
        return sorted({0, 1, size // 7, size // 3, size // 2, size - 2, size - 1})

    def test_noughts_ahead(self):
        for counter in COUNTERS:
            for number in self.some_values(counter):
                words = value_text(counter, number).split(":")
                self.assertEqual(len(words), len(counter))
                for word, base, digit in zip(reversed(words), counter, digits_of(counter, number)):
                    self.assertEqual(len(word), len(str(base - 1)))
                    self.assertEqual(int(word), digit)
        self.assertEqual(value_text((10, 11, 100, 101), 0), "000:00:00:0")
        self.assertEqual(value_text((10 ** 6,), 7), "000007")
        self.assertEqual(value_text((2,) * 12, 4095), "1:1:1:1:1:1:1:1:1:1:1:1")

    def test_there_and_back(self):
        for counter in COUNTERS:
            for number in self.some_values(counter):
                with self.subTest(counter=counter, number=number):
                    self.assertEqual(read_value(counter, value_text(counter, number)), number)

    def test_order_and_length(self):
        for counter in ((2,), (11,), (3, 4, 2), (10, 11), (11, 10, 2), (101, 3)):
            texts = [value_text(counter, number) for number in range(size_of(counter))]
            self.assertEqual(texts, sorted(set(texts)))
            self.assertEqual(len({len(text) for text in texts}), 1)
            self.assertEqual([read_value(counter, text) for text in texts], list(range(size_of(counter))))
        for counter in COUNTERS:
            texts = [value_text(counter, number) for number in self.some_values(counter)]
            self.assertEqual(texts, sorted(set(texts)))
            self.assertEqual(len({len(text) for text in texts}), 1)

    def test_short_texts(self):
        for counter in ((2,), (3, 2), (11,), (2, 11), (11, 2), (2, 2, 2)):
            for many in range(7):
                for signs in itertools.product("012:", repeat=many):
                    text = "".join(signs)
                    self.assertEqual(outcome(read_value, counter, text), plain_value(counter, text), (counter, text))

    def test_changed_texts(self):
        clock = (60, 60, 24)
        for counter, number in ((clock, 18479), (clock, 0), (clock, 86399), ((10, 11, 100), 999), (MIXED, 10 ** 20)):
            for changed in changed_texts(value_text(counter, number), "01269:; x-\n"):
                self.assertEqual(outcome(read_value, counter, changed), plain_value(counter, changed), changed)

    def test_places(self):
        clock = (60, 60, 24)
        self.check(clock, "", raised(BadText(0)))
        self.check(clock, "0", raised(BadText(1)))
        self.check(clock, "05", raised(BadText(2)))
        self.check(clock, "05:", raised(BadText(3)))
        self.check(clock, "05:07", raised(BadText(5)))
        self.check(clock, "05:07:", raised(BadText(6)))
        self.check(clock, "05:07:5", raised(BadText(7)))
        self.check(clock, "5:07:59", raised(BadText(1)))
        self.check(clock, "005:07:59", raised(BadText(2)))
        self.check(clock, "05:7:59", raised(BadText(4)))
        self.check(clock, "05 07:59", raised(BadText(2)))
        self.check(clock, "05:07:59:", raised(BadText(8)))
        self.check(clock, "05:07:59\n", raised(BadText(8)))
        self.check(clock, "05:07:59:00", raised(BadText(8)))
        self.check(clock, " 05:07:59", raised(BadText(0)))
        self.check(clock, "-5:07:59", raised(BadText(0)))
        self.check(clock, "0\u0665:07:59", raised(BadText(1)))
        self.check(clock, "0" * 20000, raised(BadText(2)))

    def test_digits_of_the_base_and_more(self):
        clock = (60, 60, 24)
        self.check(clock, "23:59:59", returned(86399))
        self.check(clock, "24:00:00", raised(BadText(0)))
        self.check(clock, "99:00:00", raised(BadText(0)))
        self.check(clock, "00:60:00", raised(BadText(3)))
        self.check(clock, "00:00:60", raised(BadText(6)))
        self.check((10, 11), "10:9", returned(109))
        self.check((10, 11), "11:0", raised(BadText(0)))

    def test_two_faults(self):
        clock = (60, 60, 24)
        self.check(clock, "24:60:60", raised(BadText(0)))
        self.check(clock, "24", raised(BadText(0)))
        self.check(clock, "24x", raised(BadText(0)))
        self.check(clock, "05:60:5x", raised(BadText(3)))
        self.check(clock, "05x60:00", raised(BadText(2)))
        self.check(clock, "00:00:600", raised(BadText(6)))
        self.check(clock, "2x:60:00", raised(BadText(1)))

    def test_no_strings(self):
        for value in NO_STRINGS + [18479, ["05:07:59"], ("05:07:59",)]:
            self.check((60, 60, 24), value, raised(BadText(0)))


class CallsTest(unittest.TestCase):

    def test_calls(self):
        clock = (60, 60, 24)
        texts = ("24:60:60", "24:1", "24:", "05:07:59", "05:60:00")
        check_calls(self, counter_text, ("counter",), [(counter,) for counter in COUNTERS])
        check_calls(self, read_counter, ("value",), [(value,) for value in ODD_VALUES + texts])
        check_calls(self, value_text, ("counter", "number"), [(clock, 0), (clock, 18479), (GREAT, 10 ** 71)])
        check_calls(self, read_value, ("counter", "value"), [(clock, value) for value in ODD_VALUES + texts])


if __name__ == "__main__":
    unittest.main()
