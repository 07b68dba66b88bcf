"""F2, F3 and F6: puts, rows with reads put in, and the fewest puts."""

import itertools
import random
import unittest

from tests.helper import (
    ODD_VALUES, all_lots, check_calls, outcome, plain_has, plain_rungs, raised, returned, rows_up_to,
)
from tornreads.errors import TooMany
from tornreads.ladders import ladder_of
from tornreads.mending import fewest_puts, put_in, puts_error, puts_for
from tornreads.rows import row_error

TEN = (10, 10, 10)
TWELVE = (10 ** 6,) * 12
FALL, LONE = ((2,), (1,), (0,)), ((1,),)
WANTS = ("down", "up", "both", "mirror")
SINGLE = ((0,), (1,), (2,))
SMALL = (
    [((5,), row) for row in rows_up_to((5,), 2)]
    + [((5, 5), row) for row in rows_up_to((5, 5), 3)]
    + [(TEN, row) for row in itertools.product(all_lots(TEN), repeat=2)]
    + [(TEN, row) for row in itertools.product(SINGLE + ((0, 2),), repeat=3)]
    + [(TEN, (lot,)) for lot in all_lots(TEN)]
    + [((2, 2, 2, 2), row) for row in (((1,), (2,)), ((0, 3),), ((3,), (0, 1), (2,)), ((2,), (3,), (0, 1, 2)))]
)


def has(counter, row, want):
    """Whether row has want, by ladder_of."""
    ways = ("down", "up") if want == "both" else (want,)
    return all(ladder_of(counter, row, way) is not None for way in ways)


def plain_fewest(counter, row):
    """For each want the fewest puts, by putting single reads in at all places, one behind another."""
    found = {}
    rows = {row}
    many = 0
    while True:
        for want in WANTS:
            if want not in found and any(has(counter, longer, want) for longer in rows):
                found[want] = many
        if len(found) == len(WANTS):
            return found
        rows = {
            longer[:at] + ((place,),) + longer[at:]
            for longer in rows for at in range(len(longer) + 1) for place in range(len(counter))
        }
        many += 1


class PutsErrorTest(unittest.TestCase):

    def check(self, value, due, row=FALL):
        self.assertEqual(outcome(puts_error, TEN, row, value), returned(due), (row, value))

    def test_form(self):
        for value in ODD_VALUES:
            if value != ():
                self.check(value, "form")
        self.check((), None)
        for value in ([(0, 1)], {(0, 1): 1}, "ab", ((0, 1), [0, 1]), ((0, 1), (0,)), ((0, 1, 2),), ((0, 1), ()), (0, 1),
                      ((0, 1), None), ((0, 1), "ab"), (((0, 1),), (0, 1))):
            self.check(value, "form")

    def test_read(self):
        for item in (-1, 4, True, False, None, "0", (0,), [0], 10 ** 399, -10 ** 399):
            self.check(((item, 0),), ("read", 0))
            self.check(((0, 0), (item, 0)), ("read", 1))
        self.check(((2, 0), (1, 0)), ("read", 1))
        self.check(((0, 0), (3, 0), (2, 0), (3, 0)), ("read", 2))
        self.check(((0, 0), (0, 0), (3, 0), (3, 0)), None)
        self.check(((1, 0),), None, LONE)
        self.check(((2, 0),), ("read", 0), LONE)

    def test_place(self):
        for item in (-1, 3, True, False, None, "0", (0,), [0], {}, 10 ** 399):
            self.check(((0, item),), ("place", 0))
            self.check(((0, 0), (3, item)), ("place", 1))
        self.check(((0, 2), (0, 0), (0, 1)), None)

    def test_two_faults(self):
        self.check(((9, 9), [0, 1]), "form")
        self.check(((9, 9),), ("read", 0))
        self.check(((0, 9), (9, 0)), ("place", 0))
        self.check(((1, 0), (0, 9)), ("read", 1))
        self.check(((1, 0), (0, 0), (9, 9)), ("read", 1))
        self.check(((True, True),), ("read", 0))

    def test_all_small_values(self):
        for value in itertools.product(itertools.product((-1, 0, 1, 2, True), (-1, 0, 2, 3)), repeat=2):
            self.check(value, self.due(value), LONE)

    def due(self, value):
        least = 0
        for k, (read, place) in enumerate(value):
            if read is True or not least <= read <= 1:
                return ("read", k)
            if place not in (0, 1, 2):
                return ("place", k)
            least = read
        return None


class PutInTest(unittest.TestCase):

    def test_order(self):
        row = ((0, 1), (1, 2))
        self.assertEqual(put_in(TEN, row, ((0, 2), (0, 0), (1, 1), (1, 1), (2, 0), (2, 2))),
                         ((2,), (0,), (0, 1), (1,), (1,), (1, 2), (0,), (2,)))
        self.assertEqual(put_in(TEN, row, ((1, 0),)), ((0, 1), (0,), (1, 2)))
        self.assertEqual(put_in(TEN, row, ((0, 0),)), ((0,), (0, 1), (1, 2)))
        self.assertEqual(put_in(TEN, row, ((2, 0),)), ((0, 1), (1, 2), (0,)))
        self.assertEqual(put_in(TEN, row, ()), row)

    def test_small_puts(self):
        for row in (LONE, ((0, 1), (2,))):
            pairs = list(itertools.product(range(len(row) + 1), range(3)))
            for puts in itertools.product(pairs, repeat=3):
                if puts_error(TEN, row, puts) is None:
                    due = []
                    for number in range(len(row) + 1):
                        due += [(place,) for read, place in puts if read == number]
                        due += [row[number]] if number < len(row) else []
                    self.assertEqual(repr(put_in(TEN, row, puts)), repr(tuple(due)))

    def test_forty_reads(self):
        for many in (1, 2, 20, 39, 40):
            row, left = LONE * many, 40 - many
            for puts in (((0, 2),) * left, ((many, 0),) * left):
                longer = put_in(TEN, row, puts)
                self.assertEqual(len(longer), 40)
                self.assertIsNone(row_error(TEN, longer))
                self.assertEqual(outcome(put_in, TEN, row, puts + ((many, 1),)), raised(TooMany(40)))


class FewestPutsTest(unittest.TestCase):

    def judge(self, counter, row, want):
        """puts_for tells right puts, of as many reads as fewest_puts tells."""
        fewest, puts = fewest_puts(counter, row, want), puts_for(counter, row, want)
        self.assertIs(type(fewest), int)
        self.assertIs(type(puts), tuple)
        self.assertIsNone(puts_error(counter, row, puts), (counter, row, want, puts))
        self.assertEqual(len(puts), fewest, (counter, row, want, puts))
        self.assertTrue(has(counter, put_in(counter, row, puts), want), (counter, row, want, puts))
        return fewest

    def test_beside_all_ways(self):
        for counter, row in SMALL:
            due = plain_fewest(counter, row)
            came = {want: self.judge(counter, row, want) for want in WANTS}
            self.assertEqual(came, due, (counter, row))

    def test_what_holds(self):
        for counter, row in SMALL:
            came = {want: fewest_puts(counter, row, want) for want in WANTS}
            for want in WANTS:
                self.assertEqual(came[want] == 0, plain_has(counter, row, want))
            self.assertGreaterEqual(came["both"], max(came["down"], came["up"]))
            self.assertGreaterEqual(came["mirror"], max(came["down"], came["up"]))
            self.assertTrue(came["mirror"] > 0 or came["both"] == 0)

    def test_great_rows(self):
        pick = random.Random(3)
        for many in (1, 5, 10, 17, 27):
            for most in (1, 2, 6):
                row = tuple([tuple(sorted(pick.sample(range(12), pick.randrange(1, most + 1)))) for _ in range(many)])
                for want in WANTS:
                    due = {"down": 12, "up": 12, "both": 23, "mirror": 23}[want]
                    if many + due > 40:
                        self.check_one_way(TWELVE, row, want)
                    else:
                        self.assertLess(self.judge(TWELVE, row, want), due + 1)

    def check_one_way(self, counter, row, want):
        """Either tells the same error, or what is told is right."""
        if outcome(fewest_puts, counter, row, want)[0] == "raises":
            self.assertEqual(outcome(fewest_puts, counter, row, want), raised(TooMany(40)))
            self.assertEqual(outcome(puts_for, counter, row, want), raised(TooMany(40)))
        else:
            self.judge(counter, row, want)

    def test_ladders_that_lack_rungs(self):
        for want, way in (("down", "down"), ("up", "up"), ("mirror", "mirror")):
            rungs = plain_rungs(TWELVE, way)
            for lacking in (0, 1, 2, 5):
                for begin in range(0, len(rungs) - lacking, 3):
                    row = tuple([(place,) for place in rungs[:begin] + rungs[begin + lacking:]])
                    self.assertEqual(self.judge(TWELVE, row, want), lacking)

    def test_one_place(self):
        for want in WANTS:
            self.assertEqual(self.judge((10,), ((0,),), want), 0)
            self.assertEqual(self.judge((10,), ((0,),) * 40, want), 0)

    def test_both_share_a_put(self):
        self.assertEqual(self.judge((5, 5), ((1,), (1,)), "both"), 1)
        self.assertEqual(self.judge((5, 5), ((0,), (0,)), "both"), 1)
        self.assertEqual(self.judge(TEN, ((2,), (0,), (2,)), "both"), 2)
        self.assertEqual(self.judge(TEN, ((2,), (1,), (1,), (2,)), "both"), 1)
        self.assertEqual(self.judge(TEN, ((0,), (1,), (1,), (0,)), "both"), 1)
        self.assertEqual(self.judge(TEN, ((0,), (1,), (1,), (0,)), "mirror"), 3)

    def test_both_lesser_than_mirror(self):
        row = ((0,), (1,), (2,), (1,), (0,))
        self.assertEqual([self.judge(TEN, row, want) for want in WANTS], [0, 0, 0, 2])

    def test_forty_reads(self):
        up = tuple([(place,) for place in range(12)])
        for want, many in (("down", 11), ("both", 11), ("mirror", 11)):
            for reads in (26, 27, 28, 29, 30, 31, 40):
                row = ((0,),) * (reads - 12) + up
                with self.subTest(want=want, reads=reads):
                    if reads + many > 40:
                        for function in (fewest_puts, puts_for):
                            self.assertEqual(outcome(function, TWELVE, row, want), raised(TooMany(40)))
                    else:
                        self.assertEqual(self.judge(TWELVE, row, want), many)
        for want, many in (("down", 2), ("up", 2), ("both", 3), ("mirror", 3)):
            self.assertEqual(self.judge(TEN, LONE * (40 - many), want), many)
            for reads in range(41 - many, 41):
                for function in (fewest_puts, puts_for):
                    self.assertEqual(outcome(function, TEN, LONE * reads, want), raised(TooMany(40)))

    def test_forty_reads_that_have_it(self):
        every = (tuple(range(12)),)
        for want in WANTS:
            self.assertEqual(self.judge(TWELVE, every * 40, want), 0)
            self.assertEqual(puts_for(TWELVE, every * 40, want), ())

    def test_calls(self):
        names = ("counter", "row", "want")
        calls = [(TEN, FALL, want) for want in WANTS] + [(TEN, LONE * 39, "up"), (TWELVE, (tuple(range(12)),), "both")]
        for function in (fewest_puts, puts_for):
            check_calls(self, function, names, calls)
        puts = [(TEN, LONE, ((0, 2), (1, 0))), (TEN, LONE * 39, ((0, 2), (0, 1))), (TEN, FALL, ())]
        check_calls(self, put_in, ("counter", "row", "puts"), puts)
        values = [((0, 2), (1, 0)), [(0, 2)], {"a": [1]}, None, ((0, True),), ((True, [0]),), (([], {}),)]
        check_calls(self, puts_error, ("counter", "row", "value"), [(TEN, LONE, value) for value in values])


if __name__ == "__main__":
    unittest.main()
