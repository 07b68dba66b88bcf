"""C2: rows, words and runs, and what is wrong with what is none."""

import unittest

from tests.helper import ODD_VALUES, all_runs, all_words, check_calls, rows_up_to
from tornreads.rows import row_error, run_error, word_error

TWO = (10, 10)
CLOCK = (60, 60, 24)
DOWN = ((1,), (0,))
NO_LOTS = (
    ((), "form"), ([0], "form"), (None, "form"), (0, "form"), ("0", "form"), (True, "form"), ({}, "form"),
    ((2,), ("place", 0)), ((-1,), ("place", 0)), ((True,), ("place", 0)), (("0",), ("place", 0)),
    ((0, 0), ("place", 1)), ((1, 0), ("place", 1)), ((0, 1, 2), ("place", 2)), ((0, True), ("place", 1)),
)


class RowErrorTest(unittest.TestCase):

    def check(self, counter, value, due):
        with self.subTest(counter=counter, value=value):
            self.assertEqual(repr(row_error(counter, value)), repr(due))

    def test_how_many_reads(self):
        self.check(TWO, (), "form")
        self.check(TWO, ((0,),), None)
        self.check(TWO, ((0,),) * 39, None)
        self.check(TWO, ((0, 1),) * 40, None)
        self.check(TWO, ((0,),) * 41, "form")
        self.check(TWO, ((0,),) * 4000, "form")
        self.check(TWO, (None,) * 41, "form")

    def test_all_short_rows(self):
        for counter in (TWO, (2, 2, 2)):
            for row in rows_up_to(counter, 2):
                self.check(counter, row, None)

    def test_no_tuples(self):
        for value in ([(0,)], {(0,): 1}, "0", 0, None, True, [], {}):
            self.check(TWO, value, "form")

    def test_no_lots(self):
        for lot, error in NO_LOTS:
            self.check(TWO, (lot,), ("lot", 0, error))
            self.check(TWO, ((0,), lot, (1,)), ("lot", 1, error))
            self.check(TWO, ((0,),) * 39 + (lot,), ("lot", 39, error))
        self.check(CLOCK, ((2,), (1, 3)), ("lot", 1, ("place", 1)))

    def test_two_faults(self):
        for lot, error in NO_LOTS:
            for other, _ in NO_LOTS:
                self.check(TWO, ((1,), lot, (0,), other), ("lot", 1, error))


class WordErrorTest(unittest.TestCase):

    NO_SIGHTS = (
        ((), "form"), ((1, 2), "form"), ([5], "form"), (None, "form"), (5, "form"), ("5", "form"), ({}, "form"),
        ((10,), ("digit", 0)), ((-1,), ("digit", 0)), ((True,), ("digit", 0)), (("5",), ("digit", 0)),
        ((None,), ("digit", 0)), ((10 ** 399,), ("digit", 0)),
    )

    def check(self, counter, row, value, due):
        with self.subTest(counter=counter, row=row, value=value):
            self.assertEqual(repr(word_error(counter, row, value)), repr(due))

    def test_all_words(self):
        for counter in ((2, 3), (2, 2, 2)):
            for row in rows_up_to(counter, 2):
                for word in all_words(counter, row):
                    self.assertIsNone(word_error(counter, row, word))
        self.check(CLOCK, ((1, 2), (0,)), ((59, 23), (0,)), None)
        self.check(TWO, ((0,),) * 40, ((9,),) * 40, None)

    def test_forms(self):
        for value in ((), ((3,),), ((3,), (5,), (3,)), [(3,), (5,)], "35", None, 35, True, {}):
            self.check(TWO, DOWN, value, "form")
        self.check(TWO, ((0,),) * 40, ((9,),) * 41, "form")

    def test_no_sights(self):
        for sight, error in self.NO_SIGHTS:
            self.check(TWO, DOWN, (sight, (5,)), ("sight", 0, error))
            self.check(TWO, DOWN, ((3,), sight), ("sight", 1, error))
            self.check(TWO, ((0,),) * 40, ((9,),) * 39 + (sight,), ("sight", 39, error))

    def test_bases_of_the_places(self):
        self.check(CLOCK, ((2,), (0,)), ((24,), (0,)), ("sight", 0, ("digit", 0)))
        self.check(CLOCK, ((2,), (0,)), ((23,), (24,)), None)
        self.check(CLOCK, ((0, 2), (0, 1)), ((24, 23), (0, 60)), ("sight", 1, ("digit", 1)))
        self.check(CLOCK, ((0, 2), (0, 1)), ((23, 24), (0, 60)), ("sight", 0, ("digit", 1)))

    def test_two_faults(self):
        for sight, error in self.NO_SIGHTS:
            for other, _ in self.NO_SIGHTS:
                self.check(TWO, ((0,), (1,), (0,)), ((9,), sight, other), ("sight", 1, error))


class RunErrorTest(unittest.TestCase):

    def check(self, counter, row, value, due):
        with self.subTest(counter=counter, row=row, value=value):
            self.assertEqual(repr(run_error(counter, row, value)), repr(due))

    def test_all_runs(self):
        row = ((0,), (1,), (0, 1))
        for run in all_runs((2, 3), row):
            self.assertIsNone(run_error((2, 3), row, run))
        self.check(TWO, DOWN, (0, 99), None)
        self.check(TWO, DOWN, (99, 99), None)
        self.check(TWO, ((0,),) * 40, tuple(range(40)), None)
        self.check((10 ** 6,) * 12, DOWN, (0, 10 ** 72 - 1), None)

    def test_forms(self):
        for value in ((), (30,), (30, 35, 35), [30, 35], "30", None, 30, True, {}):
            self.check(TWO, DOWN, value, "form")

    def test_no_values(self):
        for number in (100, 101, -1, 10 ** 399, True, False, "30", None, (30,), [30]):
            self.check(TWO, DOWN, (number, 99), ("value", 0))
            self.check(TWO, DOWN, (0, number), ("value", 1))
            self.check(TWO, DOWN + DOWN, (0, 1, 2, number), ("value", 3))
        self.check((10 ** 6,) * 12, DOWN, (0, 10 ** 72), ("value", 1))

    def test_less(self):
        self.check(TWO, DOWN, (35, 34), ("less", 1))
        self.check(TWO, DOWN, (1, 0), ("less", 1))
        self.check(TWO, DOWN + DOWN, (1, 2, 3, 2), ("less", 3))
        self.check(TWO, DOWN + DOWN, (1, 2, 1, 2), ("less", 2))

    def test_two_faults(self):
        self.check(TWO, DOWN + DOWN, (5, 4, 3, 2), ("less", 1))
        self.check(TWO, DOWN + DOWN, (5, 4, 3, 100), ("value", 3))
        self.check(TWO, DOWN + DOWN, (5, 4, None, -1), ("value", 2))
        self.check(TWO, DOWN + DOWN, (5, 4, 6, True), ("value", 3))
        self.check(TWO, DOWN + DOWN, (101, 100, 6, 7), ("value", 0))


class CallsTest(unittest.TestCase):

    def test_calls(self):
        values = ODD_VALUES + (DOWN, ((3,), (5,)), (30, 35), (35, 30), ((0,),) * 41)
        check_calls(self, row_error, ("counter", "value"), [(TWO, value) for value in values])
        check_calls(self, word_error, ("counter", "row", "value"), [(TWO, DOWN, value) for value in values])
        check_calls(self, run_error, ("counter", "row", "value"), [(TWO, DOWN, value) for value in values])


if __name__ == "__main__":
    unittest.main()
