"""E2, E3 and E4: rows by which something is sure whatever is read, words that are lost, settled values."""

import itertools
import random
import unittest

from tests.helper import (
    all_lots, check_calls, outcome, plain_digits, plain_has, plain_ladders, plain_rungs, plain_size, raised, returned,
    rows_up_to, runs_by_word,
)
from tornreads.always import always_sure, lost_word, settled_value
from tornreads.errors import Unfit
from tornreads.ladders import ladder_of
from tornreads.rows import run_error, word_error
from tornreads.runs import word_of

DAY = (60, 60, 24)
TWELVE = (10 ** 6,) * 12
SINGLE = ((0,), (1,), (2,))
SMALL = (
    [((base,), row) for base in (2, 3, 5) for row in rows_up_to((base,), 3)]
    + [(counter, row) for counter in ((2, 3), (3, 3), (3, 4)) for row in rows_up_to(counter, 3)]
    + [((2, 3), row) for row in rows_up_to((2, 3), 4) if len(row) == 4]
    + [((2, 3, 3), row) for row in rows_up_to((2, 3, 3), 2)]
    + [((2, 3, 3), row) for row in itertools.product(((0,), (1,), (2,), (0, 1), (1, 2)), repeat=3)]
    + [((2, 3, 3), row) for row in (
        ((2,), (1,), (0,), (1,), (2,)), ((2,), (1,), (1, 0), (2,)), ((2,), (0, 1), (2,), (1,)),
        ((1, 2), (0,), (2,), (1,)), ((1, 2), (0,), (1, 2)), ((0, 1, 2), (0,)), ((1,), (2,), (0,), (2,), (1,)))]
)


def small_rows():
    """For each small counter and row the runs that read each word."""
    for counter, row in SMALL:
        yield counter, row, runs_by_word(counter, row)


class AlwaysCase(unittest.TestCase):

    def judge(self, counter, row):
        """What lost_word tells is right, beside always_sure."""
        lost = lost_word(counter, row)
        self.assertEqual(lost is None, always_sure(counter, row), (counter, row))
        if lost is not None:
            self.assertIs(type(lost), tuple)
            word, first, second = lost
            self.assertIsNone(word_error(counter, row, word), (counter, row, lost))
            for run in (first, second):
                self.assertIsNone(run_error(counter, row, run), (counter, row, lost))
                self.assertEqual(word_of(counter, row, run), word, (counter, row, lost))
            self.assertLess(first[-1], second[0], (counter, row, lost))


class AlwaysTest(AlwaysCase):

    def test_beside_all_runs(self):
        met = {True: 0, False: 0}
        for counter, row, readers in small_rows():
            due = all(max(run[0] for run in runs) <= min(run[-1] for run in runs) for runs in readers.values())
            met[due] += 1
            self.assertIs(always_sure(counter, row), due, (counter, row))
            self.assertEqual(plain_has(counter, row, "mirror"), due, (counter, row))
            self.judge(counter, row)
        self.assertGreater(min(met.values()), 50)

    def test_always_sure_has_both_ladders(self):
        for counter, row in SMALL:
            if always_sure(counter, row):
                self.assertTrue(plain_has(counter, row, "both"))

    def test_base_two_above_place_0(self):
        counters = [(2, 2), (3, 2), (10 ** 6, 2), (2, 3, 2), (3, 2, 3), (3, 2, 2), (5,) * 11 + (2,), (5, 2) + (5,) * 10]
        for counter in counters:
            every = tuple(range(len(counter)))
            for row in (((0,),), ((0,), (1,)), ((1,), (0,), (1,)), (every,), (every,) * 40):
                for function in (always_sure, lost_word):
                    self.assertEqual(outcome(function, counter, row), raised(Unfit()), (counter, row))

    def test_base_two_at_place_0(self):
        for counter in ((2,), (2, 3), (2, 10 ** 6), (2,) + (3,) * 11):
            every = tuple(range(len(counter)))
            self.assertIs(always_sure(counter, (every,)), True)
            self.assertIsNone(lost_word(counter, (every,)))
            for row in (((0,),), ((len(counter) - 1,),), (every[:1], every[1:] or every[:1], every[:1])):
                self.judge(counter, row)

    def test_rows_that_lack_a_place(self):
        for counter in (DAY, (2, 3, 3), (3, 3, 3), (3,) * 12):
            m = len(counter)
            for lacking in range(m):
                lot = tuple([place for place in range(m) if place != lacking])
                for row in ((lot,), (lot,) * 5, tuple([(place,) for place in lot + lot[::-1]])):
                    self.assertIs(always_sure(counter, row), False)
                    self.judge(counter, row)

    def test_great_rows(self):
        pick = random.Random(8)
        sure = 0
        for counter in (TWELVE, (2,) + (3,) * 11, (2, 3, 10 ** 6, 4, 3), (3, 3, 3, 3), DAY):
            m = len(counter)
            mirror = [(place,) for place in plain_rungs(counter, "mirror")]
            for _ in range(60):
                lots = [tuple(sorted(pick.sample(range(m), pick.randrange(1, m + 1)))) for _ in range(40)]
                row = list(mirror)
                for _ in range(pick.randrange(40 - len(row) + 1)):
                    row.insert(pick.randrange(len(row) + 1), lots.pop())
                self.assertIs(always_sure(counter, tuple(row)), True)
                self.judge(counter, tuple(row))
                del row[pick.randrange(len(row))]
                self.judge(counter, tuple(row))
                for many in (1, 2, 5, len(lots)):
                    self.judge(counter, tuple(lots[:many]))
                    sure += always_sure(counter, tuple(lots[:many]))
                singles = tuple([(pick.randrange(m),) for _ in range(40)])
                self.judge(counter, singles)
                self.assertIs(always_sure(counter, singles), ladder_of(counter, singles, "mirror") is not None)
        self.assertGreater(sure, 50)

    def test_one_rung_of_a_mirror_is_missing(self):
        for counter in (TWELVE, (2,) + (3,) * 11, (2, 3, 3), (3, 3)):
            mirror = tuple([(place,) for place in plain_rungs(counter, "mirror")])
            for k in range(len(mirror)):
                row = mirror[:k] + mirror[k + 1:]
                self.assertIs(always_sure(counter, row), False)
                self.judge(counter, row)


class SettledTest(unittest.TestCase):

    def test_all_small_digits(self):
        for counter in ((2,), (4,), (2, 2), (3, 2), (2, 3), (2, 2, 2), (3, 2, 3)):
            every = plain_digits(counter)
            for first, second in itertools.product(every, repeat=2):
                due = self.due(counter, first, second)
                self.assertEqual(outcome(settled_value, counter, first, second), due, (counter, first, second))

    def due(self, counter, first, second):
        every = plain_digits(counter)
        unlike = [place for place in range(len(counter)) if first[place] != second[place]]
        if unlike == []:
            return returned(every.index(first))
        p = unlike[-1]
        if second[p] < first[p]:
            return raised(Unfit())
        return returned(every.index((0,) * p + (second[p],) + first[p + 1:]))

    def test_each_place_unlike(self):
        digits = tuple([500000 + place for place in range(12)])
        whole = sum(digit * 10 ** (6 * place) for place, digit in enumerate(digits))
        self.assertEqual(settled_value(TWELVE, digits, digits), whole)
        for place in range(12):
            above = sum(digits[p] * 10 ** (6 * p) for p in range(place + 1, 12))
            for lower in (digits[:place], (0,) * place, (999999,) * place):
                more = lower + (digits[place] + 1,) + digits[place + 1:]
                less = lower + (digits[place] - 1,) + digits[place + 1:]
                due = above + (digits[place] + 1) * 10 ** (6 * place)
                self.assertEqual(settled_value(TWELVE, digits, more), due)
                self.assertEqual(outcome(settled_value, TWELVE, digits, less), raised(Unfit()))
                self.assertEqual(outcome(settled_value, TWELVE, more, digits), raised(Unfit()))

    def test_base_two(self):
        self.assertEqual(settled_value((2, 2, 2), (1, 0, 0), (0, 1, 0)), 2)
        self.assertEqual(settled_value((2, 2, 2), (1, 1, 0), (1, 1, 1)), 4)
        self.assertEqual(settled_value((2, 2, 2), (1, 0, 1), (1, 0, 1)), 5)
        self.assertEqual(outcome(settled_value, (2, 2, 2), (0, 0, 1), (1, 1, 0)), raised(Unfit()))


class MirrorTest(unittest.TestCase):

    def test_beside_all_runs(self):
        """E4: what is settled of a ladder "mirror" lies from begin to end in every run that reads so."""
        told = 0
        rows = [item for item in SMALL if len(item[0]) > 1] + [
            (counter, row) for counter in ((2, 2), (3, 2)) for row in rows_up_to(counter, 3)
        ] + [((2, 2, 2), row) for row in itertools.product(all_lots((2, 2, 2)), repeat=2)]
        for counter, row in rows:
            ladders = plain_ladders(counter, row, "mirror")
            if ladders != []:
                for word, runs in runs_by_word(counter, row).items():
                    for ladder in ladders:
                        told += 1
                        value = self.settled(counter, row, word, ladder)
                        self.assertLessEqual(max(run[0] for run in runs), value)
                        self.assertLessEqual(value, min(run[-1] for run in runs))
        self.assertGreater(told, 1000)

    def settled(self, counter, row, word, ladder):
        m = len(counter)
        read = [word[at][row[at].index(place)] for at, place in zip(ladder, plain_rungs(counter, "mirror"))]
        first, second = tuple(reversed(read[:m])), tuple(read[m - 1:])
        self.assertEqual(first[0], second[0])
        value = settled_value(counter, first, second)
        self.assertTrue(0 <= value < plain_size(counter))
        return value

    def test_calls(self):
        both = ((2,), (1,), (0,), (1,), (2,))
        rows = [(DAY, both), (DAY, both[:3]), ((3, 2), ((1,), (0,), (1,))), (TWELVE, ((0, 11),) * 40), ((5,), ((0,),))]
        for function in (always_sure, lost_word):
            check_calls(self, function, ("counter", "row"), rows)
        digits = [(DAY, (30, 58, 10), (30, 59, 10)), (DAY, (30, 5, 4), (30, 4, 4)), ((2,), (1,), (1,))]
        check_calls(self, settled_value, ("counter", "first", "second"), digits)


if __name__ == "__main__":
    unittest.main()
