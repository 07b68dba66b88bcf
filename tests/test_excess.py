"""D4, D5 and D6: by how much told values are beyond the end, or short of the begin."""

import itertools
import random
import unittest

from tests.helper import (
    all_lots, all_runs, check_calls, outcome, plain_digits, plain_has, plain_size, plain_told, raised, rows_up_to,
)
from tornreads.errors import Unfit
from tornreads.excess import beyond_run, missed_places, short_run, worst_beyond, worst_short
from tornreads.rows import run_error
from tornreads.runs import word_of
from tornreads.telling import is_agreed, told_by

DAY = (60, 60, 24)
TWELVE = (10 ** 6,) * 12
THREE = (2, 2, 2)
SMALL = (
    [((base,), row) for base in (2, 5) for row in rows_up_to((base,), 3)]
    + [(counter, row) for counter in ((2, 2), (3, 2), (2, 3), (3, 3)) for row in rows_up_to(counter, 3)]
    + [(THREE, row) for row in itertools.product(all_lots(THREE), repeat=2)]
    + [(THREE, row) for row in itertools.product(((0,), (1,), (2,), (0, 2), (0, 1)), repeat=3)]
    + [(THREE, row) for row in itertools.product(((0,), (1,), (2,)), repeat=4)]
    + [((3, 2, 3), row) for row in itertools.permutations(((0,), (1,), (2,)))]
    + [((2, 2, 2, 2), row) for row in (
        ((2,), (3,), (1,), (0,)), ((0, 2), (1, 3), (0,)), ((1,), (0, 3), (2,), (1,)), ((3,), (0,), (2,), (1,)))]
)


def is_full_plainly(counter, row):
    return set(itertools.chain(*row)) == set(range(len(counter)))


def plain_missed(counter, row, way):
    """The places that the pointer misses, moved as the document tells it."""
    pointer = 0 if way == "down" else len(row) - 1
    missed = []
    for place in range(len(counter) - 1, -1, -1):
        behind = range(pointer, len(row)) if way == "down" else range(pointer, -1, -1)
        for read in behind:
            if place in row[read]:
                pointer = read
                break
        else:
            missed.append(place)
    return tuple(sorted(missed))


def plain_sum(counter, places):
    return sum((counter[place] - 1) * plain_size(counter[:place]) for place in places)


def plain_worst(counter, row):
    """The greatest told value less end, and begin less told value, at least 0, by going through all runs."""
    every = plain_digits(counter)
    beyond = short = 0
    for run in all_runs(counter, row):
        word = tuple([tuple([every[number][place] for place in lot]) for lot, number in zip(row, run)])
        told = plain_told(counter, word, row)
        if told is not None:
            beyond, short = max(beyond, told - run[-1]), max(short, run[0] - told)
    return beyond, short


class ExcessCase(unittest.TestCase):

    def judge(self, counter, row):
        """What beyond_run and short_run tell is right by worst_beyond and worst_short."""
        for find, worst, by in ((beyond_run, worst_beyond, "beyond"), (short_run, worst_short, "short")):
            most, run = worst(counter, row), find(counter, row)
            self.assertIs(type(most), int)
            self.assertEqual(run is None, most == 0, (counter, row, by))
            if run is not None:
                self.assertIsNone(run_error(counter, row, run), (counter, row, by, run))
                word = word_of(counter, row, run)
                self.assertTrue(is_agreed(counter, row, word), (counter, row, by, run))
                told = told_by(counter, row, word)
                self.assertEqual(told - run[-1] if by == "beyond" else run[0] - told, most, (counter, row, by, run))


class SmallTest(ExcessCase):

    def test_missed_places(self):
        for counter, row in SMALL:
            for way in ("down", "up"):
                due = plain_missed(counter, row, way)
                self.assertEqual(repr(missed_places(counter, row, way)), repr(due), (counter, row, way))

    def test_beside_all_runs(self):
        full = 0
        for counter, row in SMALL:
            if is_full_plainly(counter, row):
                full += 1
                due = plain_worst(counter, row)
                self.assertEqual((worst_beyond(counter, row), worst_short(counter, row)), due, (counter, row))
                self.judge(counter, row)
        self.assertGreater(full, 200)

    def test_rows_that_are_not_full(self):
        for counter, row in SMALL + [(TWELVE, (tuple(range(11)),) * 40), (DAY, ((2,), (0,))), (DAY, ((1, 2),))]:
            if not is_full_plainly(counter, row):
                for function in (worst_beyond, worst_short, beyond_run, short_run):
                    self.assertEqual(outcome(function, counter, row), raised(Unfit()), (counter, row))

    def test_ladders_and_excess(self):
        for counter, row in SMALL:
            for way, worst in (("down", worst_beyond), ("up", worst_short)):
                has = plain_has(counter, row, way)
                self.assertEqual(missed_places(counter, row, way) == (), has)
                if is_full_plainly(counter, row):
                    self.assertEqual(worst(counter, row) == 0, has)

    def test_turned_about(self):
        for counter, row in SMALL:
            self.assertEqual(missed_places(counter, row, "up"), missed_places(counter, row[::-1], "down"))
            if is_full_plainly(counter, row):
                self.assertEqual(worst_short(counter, row), worst_beyond(counter, row[::-1]))
                self.assertEqual(worst_beyond(counter, row), worst_short(counter, row[::-1]))


class GreatTest(ExcessCase):

    def rows(self):
        """Rows of counters of many places, picked by a fixed seed: reads of one place, and of several."""
        pick = random.Random(5)
        for counter in (TWELVE, (2,) * 12, (2, 10 ** 6, 3, 7, 2, 999983), (60, 60, 24), (2, 3) * 6):
            places = range(len(counter))
            for _ in range(40):
                row = [(place,) for place in places]
                pick.shuffle(row)
                yield counter, tuple(row)
                yield counter, tuple(row + [(pick.choice(places),) for _ in range(pick.randrange(29))])
                wide = [tuple(sorted(pick.sample(places, pick.randrange(1, len(counter) + 1)))) for _ in range(39)]
                yield counter, tuple(wide[:pick.randrange(1, 6)]) + ((pick.choice(places),),)
                yield counter, tuple(wide) + ((pick.choice(places),),)

    def test_beside_the_sum(self):
        full = 0
        for counter, row in self.rows():
            for way, worst in (("down", worst_beyond), ("up", worst_short)):
                missed = plain_missed(counter, row, way)
                self.assertEqual(missed_places(counter, row, way), missed)
                if is_full_plainly(counter, row):
                    full += 1
                    self.assertEqual(worst(counter, row), plain_sum(counter, missed), (counter, row))
                else:
                    self.assertEqual(outcome(worst, counter, row), raised(Unfit()))
            if is_full_plainly(counter, row):
                self.judge(counter, row)
        self.assertGreater(full, 600)

    def test_all_but_the_greatest_place_missed(self):
        up = tuple([(place,) for place in range(12)])
        down = up[::-1]
        self.assertEqual(worst_beyond(TWELVE, up), 10 ** 66 - 1)
        self.assertEqual(worst_short(TWELVE, down), 10 ** 66 - 1)
        self.assertEqual((worst_beyond(TWELVE, down), worst_short(TWELVE, up)), (0, 0))
        self.assertEqual((beyond_run(TWELVE, down), short_run(TWELVE, up)), (None, None))
        self.judge(TWELVE, up)
        self.judge(TWELVE, down)

    def test_all_places_at_one_moment(self):
        for many in (1, 2, 40):
            row = (tuple(range(12)),) * many
            self.assertEqual((worst_beyond(TWELVE, row), worst_short(TWELVE, row)), (0, 0))
            self.judge(TWELVE, row)

    def test_places_in_no_lot_are_missed(self):
        for way in ("down", "up"):
            self.assertEqual(missed_places(TWELVE, ((3,),), way), tuple([p for p in range(12) if p != 3]))
            self.assertEqual(missed_places(DAY, ((0,), (0,)), way), (1, 2))
        self.assertEqual(missed_places(DAY, ((1,), (2,)), "down"), (0, 1))
        self.assertEqual(missed_places(DAY, ((1,), (2,)), "up"), (0,))

    def test_day(self):
        self.assertEqual(worst_beyond(DAY, ((0,), (1,), (2,))), 3599)
        self.assertEqual(worst_short(DAY, ((1,), (2,), (0,))), 59)
        self.assertEqual(worst_beyond(DAY, ((1,), (2,), (0,))), 3540)
        self.assertEqual(worst_beyond(DAY, ((0,), (2,), (1,))), 59)
        self.assertEqual(worst_short(DAY, ((0,), (2,), (1,))), 3540)

    def test_calls(self):
        rows = [(DAY, ((0,), (1,), (2,))), (DAY, ((2,), (0,))), (DAY, ((1,), (2,), (0,))), (TWELVE, ((0, 11),) * 40)]
        for function in (worst_beyond, worst_short, beyond_run, short_run):
            check_calls(self, function, ("counter", "row"), rows)
        calls = [row + (way,) for row in rows for way in ("down", "up")]
        check_calls(self, missed_places, ("counter", "row", "way"), calls)


if __name__ == "__main__":
    unittest.main()
