"""F4, F5 and F6: the fewest reads of a row that have what is wanted, and the fewest of all."""

import itertools
import random
import unittest

from tests.helper import all_lots, check_calls, plain_has, plain_rungs, rows_up_to
from tornreads.keeping import fewest_kept, fewest_lots, lots_for, part_for
from tornreads.ladders import ladder_of
from tornreads.mending import fewest_puts
from tornreads.rows import row_error

TEN = (10, 10, 10)
TWELVE = (10 ** 6,) * 12
MUCH = ((2,), (1, 2), (0,), (0, 1), (1,), (2,))
WANTS = ("down", "up", "both", "mirror")
SMALL = (
    [((5,), row) for row in rows_up_to((5,), 3)]
    + [((5, 5), row) for row in rows_up_to((5, 5), 4)]
    + [(TEN, row) for row in itertools.product(all_lots(TEN), repeat=3)]
    + [(TEN, row) for row in itertools.product(((0,), (1,), (2,), (0, 1), (1, 2)), repeat=5) if row[0] < row[-1]]
    + [(TEN, row) for row in itertools.permutations(MUCH)]
)


def has(counter, row, want):
    """Whether row has want, by ladder_of."""
    ways = ("down", "up") if want == "both" else (want,)
    return all(ladder_of(counter, row, way) is not None for way in ways)


def plain_part(counter, row, want):
    """All parts of row of as few reads as can be that have want, by going through all parts."""
    for many in range(1, len(row) + 1):
        parts = [part for part in itertools.combinations(range(len(row)), many)
                 if has(counter, tuple([row[number] for number in part]), want)]
        if parts:
            return parts
    return []


class KeptTest(unittest.TestCase):

    def judge(self, counter, row, want):
        """part_for tells a right part, of as many reads as fewest_kept tells."""
        fewest, part = fewest_kept(counter, row, want), part_for(counter, row, want)
        self.assertEqual(fewest is None, part is None)
        if part is not None:
            self.assertIs(type(fewest), int)
            self.assertIs(type(part), tuple)
            self.assertEqual(list(part), sorted(set(part)))
            self.assertEqual(len(part), fewest)
            self.assertTrue(0 <= part[0] and part[-1] < len(row))
            self.assertTrue(has(counter, tuple([row[number] for number in part]), want), (counter, row, want, part))
        return part

    def test_beside_all_parts(self):
        met = {want: 0 for want in WANTS}
        pick = random.Random(1)
        for counter, row in [item for item in SMALL if len(item[1]) < 5 or pick.randrange(4) == 0]:
            for want in WANTS:
                due = plain_part(counter, row, want)
                part = self.judge(counter, row, want)
                if due == []:
                    self.assertIsNone(part, (counter, row, want))
                    self.assertIsNone(fewest_kept(counter, row, want))
                else:
                    met[want] += 1
                    self.assertIn(part, due, (counter, row, want))
        self.assertGreater(min(met.values()), 100)

    def test_none_where_the_row_has_it_not(self):
        for counter, row in SMALL[::7]:
            for want in WANTS:
                self.assertEqual(fewest_kept(counter, row, want) is not None, plain_has(counter, row, want))
                self.assertEqual(fewest_kept(counter, row, want) is None, fewest_puts(counter, row, want) > 0)

    def test_forty_reads_of_twelve_places(self):
        pick = random.Random(2)
        for want, way in (("down", "down"), ("up", "up"), ("mirror", "mirror"), ("both", "mirror")):
            rungs = [(place,) for place in plain_rungs(TWELVE, way)]
            for _ in range(8):
                row = list(rungs)
                while len(row) < 40:
                    row.insert(pick.randrange(len(row) + 1), (pick.randrange(12),))
                part = self.judge(TWELVE, tuple(row), want)
                self.assertEqual(len(part), len(rungs))
                wide = tuple([tuple(sorted(pick.sample(range(12), pick.randrange(1, 8)))) for _ in range(40)])
                self.judge(TWELVE, wide, want)
            lacking = tuple([lot for lot in rungs if lot != (6,)])
            self.assertIsNone(self.judge(TWELVE, (lacking + lacking)[:40], want))

    def test_all_places_at_one_moment(self):
        every = tuple(range(12))
        for want in WANTS:
            self.assertEqual(len(self.judge(TWELVE, (every,) * 40, want)), 1)
            self.assertEqual(self.judge(TWELVE, ((3,),) * 20 + (every,) + ((4,),) * 19, want), (20,))
            self.assertEqual(fewest_kept((5,), ((0,),), want), 1)

    def test_halves(self):
        low, high = tuple(range(6)), tuple(range(6, 12))
        row = ((0, 11),) * 10 + (high,) + ((5,),) * 10 + (low,) + ((6,),) * 9 + (high,)
        self.assertEqual([self.judge(TWELVE, row, want) for want in WANTS],
                         [(10, 21), (21, 31), (10, 21, 31), (10, 21, 31)])

    def test_calls(self):
        calls = [(TEN, MUCH, want) for want in WANTS] + [(TEN, ((0,),), "up"), (TWELVE, (tuple(range(12)),) * 40, "both")]
        for function in (fewest_kept, part_for):
            check_calls(self, function, ("counter", "row", "want"), calls)


class LotsTest(unittest.TestCase):

    def judge(self, counter, most, want):
        fewest, row = fewest_lots(counter, most, want), lots_for(counter, most, want)
        self.assertIs(type(fewest), int)
        self.assertIsNone(row_error(counter, row), (counter, most, want, row))
        self.assertEqual(len(row), fewest)
        self.assertLessEqual(max([len(lot) for lot in row]), most)
        self.assertTrue(has(counter, row, want), (counter, most, want, row))
        return fewest

    def test_all_sizes(self):
        for many in range(1, 13):
            for counter in ((2,) * many, tuple(range(2, 2 + many))):
                for most in range(1, 13):
                    k = len([place for place in range(many) if place % most == 0])
                    for want, due in (("down", k), ("up", k), ("mirror", 2 * k - 1)):
                        self.assertEqual(self.judge(counter, most, want), due, (many, most, want))

    def test_no_fewer(self):
        for many in range(1, 5):
            counter = (2,) * many
            for most in range(1, many + 1):
                lots = [lot for lot in all_lots(counter) if len(lot) <= most]
                for want in ("down", "up", "mirror"):
                    fewer = fewest_lots(counter, most, want) - 1
                    if fewer > 0 and len(lots) ** fewer < 20000:
                        for row in itertools.product(lots, repeat=fewer):
                            self.assertFalse(has(counter, row, want), (most, want, row))

    def test_calls(self):
        calls = [(counter, most, want) for counter in ((2,), TEN, TWELVE) for most in (1, 2, 5, 12)
                 for want in ("down", "up", "mirror")]
        for function in (fewest_lots, lots_for):
            check_calls(self, function, ("counter", "most", "want"), calls)


if __name__ == "__main__":
    unittest.main()
