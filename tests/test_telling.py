"""D2: full rows, words that agree, told values."""

import itertools
import unittest

from tests.helper import (
    all_words, check_calls, outcome, plain_told, raised, returned, rows_up_to,
)
from tornreads.errors import Unfit
from tornreads.telling import is_agreed, is_full, told_by

DAY = (60, 60, 24)
TWELVE = (10 ** 6,) * 12
SMALL = (
    [((3,), row) for row in rows_up_to((3,), 3)]
    + [(counter, row) for counter in ((2, 3), (3, 2)) for row in rows_up_to(counter, 3)]
    + [((2, 2, 2), row) for row in rows_up_to((2, 2, 2), 2)]
)


class SmallTest(unittest.TestCase):

    def test_is_full(self):
        for counter, row in SMALL:
            due = set(itertools.chain(*row)) == set(range(len(counter)))
            self.assertIs(is_full(counter, row), due, (counter, row))

    def test_is_agreed(self):
        for counter, row in SMALL:
            for word in all_words(counter, row):
                cells = set(cell for lot, sight in zip(row, word) for cell in zip(lot, sight))
                places = set(place for place, _ in cells)
                self.assertIs(is_agreed(counter, row, word), len(cells) == len(places), (counter, row, word))

    def test_told_by(self):
        met = set()
        for counter, row in SMALL:
            for word in all_words(counter, row):
                told = plain_told(counter, word, row)
                due = raised(Unfit()) if told is None else returned(told)
                met.add((is_full(counter, row), is_agreed(counter, row, word)))
                self.assertEqual(outcome(told_by, counter, row, word), due, (counter, row, word))
        self.assertEqual(len(met), 4)


class EdgesTest(unittest.TestCase):

    def test_places_that_are_not_read(self):
        for row in (((2,), (0,)), ((0, 1),), ((1, 2),), ((0,),) * 40, ((1,), (2,), (1,))):
            word = tuple([(0,) * len(lot) for lot in row])
            self.assertIs(is_full(DAY, row), False)
            self.assertIs(is_agreed(DAY, row, word), True)
            self.assertEqual(outcome(told_by, DAY, row, word), raised(Unfit()))

    def test_several_digits_alike(self):
        row = ((0, 1), (1, 2), (0, 2), (0, 1, 2))
        word = ((5, 6), (6, 7), (5, 7), (5, 6, 7))
        self.assertIs(is_agreed(DAY, row, word), True)
        self.assertEqual(told_by(DAY, row, word), 5 + 6 * 60 + 7 * 3600)
        for k, sight in enumerate(word):
            for at in range(len(sight)):
                unlike = sight[:at] + (sight[at] + 1,) + sight[at + 1:]
                other = word[:k] + (unlike,) + word[k + 1:]
                self.assertIs(is_agreed(DAY, row, other), False, other)
                self.assertEqual(outcome(told_by, DAY, row, other), raised(Unfit()))

    def test_both_faults(self):
        row, word = ((2,), (0,), (2,)), ((5,), (0,), (6,))
        self.assertIs(is_full(DAY, row), False)
        self.assertIs(is_agreed(DAY, row, word), False)
        self.assertEqual(outcome(told_by, DAY, row, word), raised(Unfit()))

    def test_digits_of_unlike_places_may_be_unlike(self):
        self.assertIs(is_agreed(DAY, ((0, 1, 2),), ((1, 2, 3),)), True)
        self.assertIs(is_agreed(DAY, ((0,), (1,)), ((1,), (2,))), True)

    def test_digits_of_nought(self):
        self.assertIs(is_agreed(DAY, ((0,), (0,)), ((0,), (1,))), False)
        self.assertIs(is_agreed(DAY, ((0,), (0,)), ((1,), (0,))), False)
        self.assertEqual(told_by(DAY, ((0, 1, 2),), ((0, 0, 0),)), 0)

    def test_forty_reads_of_twelve_places(self):
        digits = tuple([999999 - place * place for place in range(12)])
        value = sum(digit * 10 ** (6 * place) for place, digit in enumerate(digits))
        for lots in (((0,), (3, 5), (11,)), tuple([(place,) for place in range(12)]), (tuple(range(12)),)):
            row = tuple([lots[k % len(lots)] for k in range(40)])
            word = tuple([tuple([digits[place] for place in lot]) for lot in row])
            full = len(set(itertools.chain(*lots))) == 12
            self.assertIs(is_full(TWELVE, row), full)
            self.assertIs(is_agreed(TWELVE, row, word), True)
            self.assertEqual(outcome(told_by, TWELVE, row, word), returned(value) if full else raised(Unfit()))
            last = word[-1][:-1] + (word[-1][-1] - 1,)
            self.assertIs(is_agreed(TWELVE, row, word[:-1] + (last,)), False)
            self.assertEqual(outcome(told_by, TWELVE, row, word[:-1] + (last,)), raised(Unfit()))

    def test_calls(self):
        words = [
            (DAY, ((2,), (1,), (0,)), ((10,), (59,), (0,))), (DAY, ((2,), (0,)), ((10,), (0,))),
            (DAY, ((0, 1, 2), (1,)), ((10, 9, 8), (8,))), (TWELVE, (tuple(range(12)),) * 40, (tuple(range(12)),) * 40),
        ]
        check_calls(self, is_full, ("counter", "row"), [call[:2] for call in words])
        check_calls(self, is_agreed, ("counter", "row", "word"), words)
        check_calls(self, told_by, ("counter", "row", "word"), words)


if __name__ == "__main__":
    unittest.main()
