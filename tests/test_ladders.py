"""D3: ladders, and what is wrong with what is none."""

import itertools
import unittest

from tests.helper import ODD_VALUES, check_calls, outcome, plain_ladders, plain_rungs, returned, rows_up_to
from tornreads.ladders import ladder_error, ladder_of

DAY = (60, 60, 24)
FALLING, RISING, WIDE = ((2,), (1,), (0,)), ((0,), (1,), (2,)), ((0, 2), (1,), (0,), (1, 2))
TWELVE = (10 ** 6,) * 12
WAYS = ("down", "up", "mirror")
SINGLE = ((0,), (1,), (2,))
SMALL = (
    [((2,), row) for row in rows_up_to((2,), 2)]
    + [((3, 2), row) for row in rows_up_to((3, 2), 4)]
    + [((2, 2, 2), row) for row in rows_up_to((2, 2, 2), 3)]
    + [((2, 2, 2), row) for row in itertools.product(SINGLE, repeat=5)]
    + [((2, 2, 2, 2), row) for row in (
        ((3,), (2,), (1,), (0,), (1,), (2,), (3,)), ((2, 3), (0, 1), (2, 3)), ((3,), (0, 1, 2), (2,), (3,)),
        ((0, 3), (1, 2), (0, 3)), ((1, 3), (0, 2), (1, 3)), ((0, 1, 2, 3),), ((0, 2), (1, 3), (0, 2), (1, 3)))]
)


class LadderOfTest(unittest.TestCase):

    def test_small_rows(self):
        found = {way: 0 for way in WAYS}
        for counter, row in SMALL:
            for way in WAYS:
                ladders = plain_ladders(counter, row, way)
                ladder = ladder_of(counter, row, way)
                self.assertEqual(ladder is None, ladders == [], (counter, row, way))
                if ladder is not None:
                    found[way] += 1
                    self.assertIs(type(ladder), tuple)
                    self.assertIn(ladder, ladders)
                    self.assertIsNone(ladder_error(counter, row, way, ladder))
        self.assertGreater(min(found.values()), 100)

    def test_one_place(self):
        for way in WAYS:
            self.assertEqual(ladder_of((5,), ((0,),), way), (0,))

    def test_great_rows(self):
        singles = tuple([(place,) for place in range(12)])
        down, up = singles[::-1], singles
        self.assertEqual(ladder_of(TWELVE, down, "down"), tuple(range(12)))
        self.assertEqual(ladder_of(TWELVE, up, "up"), tuple(range(12)))
        self.assertIsNone(ladder_of(TWELVE, down * 3 + down[:4], "up"))
        self.assertEqual(ladder_of(TWELVE, down + up[1:], "mirror"), tuple(range(23)))
        self.assertIsNone(ladder_of(TWELVE, (down + up[1:])[:22] + down[1:], "mirror"))
        self.assertIsNone(ladder_of(TWELVE, up + down, "mirror"))
        every = (tuple(range(12)),)
        self.assertEqual([len(ladder_of(TWELVE, every * 40, way)) for way in WAYS], [12, 12, 23])


class LadderErrorTest(unittest.TestCase):

    def check(self, row, way, value, due):
        self.assertEqual(outcome(ladder_error, DAY, row, way, value), returned(due), (row, way, value))

    def test_all_small_values(self):
        for counter, row in [item for item in SMALL if len(item[0]) < 4 and len(item[1]) < 4]:
            for way in WAYS[:2]:
                rungs = plain_rungs(counter, way)
                for value in itertools.product(range(-1, len(row) + 1), repeat=len(rungs)):
                    due = self.due(row, rungs, value)
                    self.assertEqual(outcome(ladder_error, counter, row, way, value), returned(due), (row, way, value))

    def due(self, row, rungs, value):
        many = len(value)
        faults = [("read", k) for k in range(many) if value[k] < 0 or value[k] >= len(row)]
        if faults == []:
            faults = [("less", k) for k in range(1, many) if value[k] < value[k - 1]]
        if faults == []:
            faults = [("place", k) for k in range(many) if rungs[k] not in row[value[k]]]
        return faults[0] if faults else None

    def test_form(self):
        for way, many in (("down", 3), ("up", 3), ("mirror", 5)):
            for value in ODD_VALUES:
                self.check(WIDE, way, value, "form")
            for wrong in range(8):
                if wrong != many:
                    self.check(((0, 1, 2),), way, (0,) * wrong, "form")
            self.check(((0, 1, 2),), way, [0] * many, "form")
            self.check(((0, 1, 2),), way, (0,) * many, None)

    def test_read(self):
        for item in (-1, 4, True, False, None, "0", (0,), [0], {}, 10 ** 399, -10 ** 399):
            self.check(WIDE, "down", (item, 1, 2), ("read", 0))
            self.check(WIDE, "down", (0, item, 2), ("read", 1))
            self.check(WIDE, "down", (0, 1, item), ("read", 2))
            self.check(WIDE, "mirror", (0, 1, 2, 3, item), ("read", 4))
        self.check(WIDE, "down", (9, -1, 2), ("read", 0))

    def test_less(self):
        self.check(WIDE, "up", (2, 1, 3), ("less", 1))
        self.check(WIDE, "up", (0, 3, 0), ("less", 2))
        self.check(WIDE, "up", (3, 2, 1), ("less", 1))
        self.check(WIDE, "up", (2, 3, 3), None)

    def test_place(self):
        self.check(WIDE, "up", (1, 1, 3), ("place", 0))
        self.check(WIDE, "up", (0, 2, 3), ("place", 1))
        self.check(WIDE, "up", (0, 1, 2), ("place", 2))
        self.check(WIDE, "up", (1, 2, 2), ("place", 0))
        self.check(WIDE, "mirror", (0, 1, 2, 3, 3), None)
        self.check(WIDE, "mirror", (0, 1, 2, 2, 3), ("place", 3))
        self.check(WIDE, "down", (0, 1, 2), None)
        self.check(FALLING, "down", (0, 1, 2), None)
        self.check(FALLING, "up", (0, 1, 2), ("place", 0))
        self.check(RISING, "up", (0, 1, 2), None)

    def test_two_faults(self):
        self.check(WIDE, "up", (1, 0, 9), ("read", 2))
        self.check(WIDE, "up", (1, 0, True), ("read", 2))
        self.check(WIDE, "up", (1, 3, 2), ("less", 2))
        self.check(WIDE, "mirror", (1, 1, 1, 1, 0), ("less", 4))
        self.check(WIDE, "up", [1, 0, 9], "form")
        self.check(WIDE, "up", (9, True), "form")

    def test_calls(self):
        names = ("counter", "row", "way")
        calls = [(DAY, WIDE, way) for way in WAYS] + [(DAY, FALLING, "up"), (TWELVE, (tuple(range(12)),) * 40, "mirror")]
        check_calls(self, ladder_of, names, calls)
        values = [(0, 1, 2), [0, 1, 2], {"a": [1]}, None, (0, True, [1]), (2, 1, 3), (0, 2, 3)]
        check_calls(self, ladder_error, names + ("value",), [(DAY, WIDE, "up", value) for value in values])


if __name__ == "__main__":
    unittest.main()
