"""B2, B3 and B4: going on, and back, to values that show a sight, and counting them."""

import random
import unittest

from tests.helper import (
    all_lots, all_sights, check_calls, outcome, plain_ahead, plain_back, plain_count, plain_nth, plain_showing,
    plain_size, raised, returned,
)
from tornreads.errors import Unfit
from tornreads.going import ahead_from, back_to, how_many, nth_of

SMALL = ((2,), (5,), (2, 2), (3, 4, 2), (2, 3, 4), (4, 2, 3), (2, 2, 2, 2), (3, 2, 2, 3))
TWELVE = (10 ** 6,) * 12
MIXED = (2, 10 ** 6, 3, 999999, 7, 60, 60, 24, 365, 2, 11, 100)
# Each tells twelve places, so that a lot takes the digits at its places.
PATTERNS = ((0,) * 12, (1,) * 12, tuple(range(12)), (0, 1) * 6, (1, 0, 0) * 4)
LOTS = ((0,), (11,), (5,), (0, 11), (0, 1, 2), (9, 10, 11), (3, 4, 8), tuple(range(11)), tuple(range(1, 12)),
        (0, 2, 4, 6, 8, 10), tuple(range(12)))


def great_sights():
    """Sights of great counters: of the least digits, the greatest ones, and some between."""
    for counter in (TWELVE, MIXED, (10 ** 6, 2) * 6):
        for lot in LOTS:
            patterns = PATTERNS + (tuple([base - 1 for base in counter]), tuple([base // 2 for base in counter]))
            for pattern in patterns:
                yield counter, lot, tuple([min(pattern[place], counter[place] - 1) for place in lot])


def great_starts(counter, lot, sight):
    """Values of counter that show sight, and those one less and one more, and the ends."""
    rand = random.Random(repr((counter, lot, sight)))
    size = plain_size(counter)
    many = plain_count(counter, lot, sight, size)
    shown = [plain_nth(counter, lot, sight, number) for number in {0, many // 2, many - 1}]
    near = [number + by for number in shown for by in (-1, 0, 1)]
    return sorted({0, 1, size // 2, size - 1, rand.randrange(size), *[n for n in near if 0 <= n < size]})


class SmallTest(unittest.TestCase):

    def sights(self):
        for counter in SMALL:
            for lot in all_lots(counter):
                for sight in all_sights(counter, lot):
                    yield counter, lot, sight, plain_showing(counter, lot, sight)

    def test_ahead_and_back(self):
        for counter, lot, sight, shown in self.sights():
            for start in range(plain_size(counter) + 1):
                due = min([number for number in shown if number >= start], default=None)
                self.assertEqual(ahead_from(counter, lot, sight, start), due, (counter, lot, sight, start))
            for start in range(-1, plain_size(counter)):
                due = max([number for number in shown if number <= start], default=None)
                self.assertEqual(back_to(counter, lot, sight, start), due, (counter, lot, sight, start))

    def test_how_many(self):
        for counter, lot, sight, shown in self.sights():
            for limit in range(plain_size(counter) + 1):
                due = len([number for number in shown if number < limit])
                self.assertEqual(how_many(counter, lot, sight, limit), due, (counter, lot, sight, limit))

    def test_nth_of(self):
        for counter, lot, sight, shown in self.sights():
            for number, due in enumerate(shown):
                self.assertEqual(nth_of(counter, lot, sight, number), due, (counter, lot, sight, number))
            for number in (len(shown), len(shown) + 1, plain_size(counter), 10 ** 100):
                self.assertEqual(outcome(nth_of, counter, lot, sight, number), raised(Unfit()))


class GreatTest(unittest.TestCase):

    def test_beside_counting(self):
        for counter, lot, sight in great_sights():
            for start in great_starts(counter, lot, sight):
                with self.subTest(counter=counter, lot=lot, sight=sight, start=start):
                    self.assertEqual(ahead_from(counter, lot, sight, start), plain_ahead(counter, lot, sight, start))
                    self.assertEqual(back_to(counter, lot, sight, start), plain_back(counter, lot, sight, start))
                    self.assertEqual(how_many(counter, lot, sight, start), plain_count(counter, lot, sight, start))

    def test_ends(self):
        for counter, lot, sight in great_sights():
            with self.subTest(counter=counter, lot=lot, sight=sight):
                size = plain_size(counter)
                free = plain_size([counter[place] for place in range(12) if place not in lot])
                self.assertIsNone(ahead_from(counter, lot, sight, size))
                self.assertIsNone(back_to(counter, lot, sight, -1))
                self.assertEqual(how_many(counter, lot, sight, 0), 0)
                self.assertEqual(how_many(counter, lot, sight, size), free)

    def test_nth_of(self):
        for counter, lot, sight in great_sights():
            with self.subTest(counter=counter, lot=lot, sight=sight):
                free = plain_size([counter[place] for place in range(12) if place not in lot])
                for number in {0, 1, free // 3, free // 2, free - 1}:
                    due = plain_nth(counter, lot, sight, number)
                    came = outcome(nth_of, counter, lot, sight, number)
                    self.assertEqual(came, raised(Unfit()) if due is None else returned(due))
                for number in (free, free + 1, free * 10 ** 6, 10 ** 300):
                    self.assertEqual(outcome(nth_of, counter, lot, sight, number), raised(Unfit()))

    def test_starts_that_show_the_sight(self):
        # The places 2 and 7 tell 5 and 999999; all others may have any digits.
        lot, sight = (2, 7), (5, 999999)
        least = 5 * 10 ** 12 + 999999 * 10 ** 42
        greatest = 10 ** 72 - 1 - (999999 - 5) * 10 ** 12
        self.assertEqual(ahead_from(TWELVE, lot, sight, 0), least)
        self.assertEqual(ahead_from(TWELVE, lot, sight, least), least)
        self.assertEqual(ahead_from(TWELVE, lot, sight, least + 1), least + 1)
        self.assertEqual(ahead_from(TWELVE, lot, sight, least + 10 ** 12), least + 10 ** 18)
        self.assertEqual(ahead_from(TWELVE, lot, sight, least + 10 ** 42), least + 10 ** 48)
        self.assertEqual(ahead_from(TWELVE, lot, sight, greatest), greatest)
        self.assertIsNone(ahead_from(TWELVE, lot, sight, greatest + 1))
        self.assertIsNone(ahead_from(TWELVE, lot, sight, 10 ** 72))
        self.assertEqual(back_to(TWELVE, lot, sight, 10 ** 72 - 1), greatest)
        self.assertEqual(back_to(TWELVE, lot, sight, greatest - 1), greatest - 1)
        self.assertEqual(back_to(TWELVE, lot, sight, least), least)
        self.assertIsNone(back_to(TWELVE, lot, sight, least - 1))
        self.assertEqual(how_many(TWELVE, lot, sight, 10 ** 72), 10 ** 60)
        self.assertEqual(nth_of(TWELVE, lot, sight, 0), least)
        self.assertEqual(nth_of(TWELVE, lot, sight, 10 ** 60 - 1), greatest)


class LawsTest(unittest.TestCase):

    def mirrored(self, counter, lot, sight):
        return tuple([counter[place] - 1 - digit for place, digit in zip(lot, sight)])

    def cases(self):
        for counter in ((3, 4, 2), (2, 2, 2, 2)):
            for lot in all_lots(counter):
                for sight in all_sights(counter, lot):
                    yield counter, lot, sight, range(plain_size(counter))
        for counter, lot, sight in great_sights():
            yield counter, lot, sight, great_starts(counter, lot, sight)

    def test_mirror(self):
        for counter, lot, sight, starts in self.cases():
            greatest = plain_size(counter) - 1
            for start in starts:
                found = back_to(counter, lot, sight, start)
                other = ahead_from(counter, lot, self.mirrored(counter, lot, sight), greatest - start)
                self.assertEqual(found, None if other is None else greatest - other)

    def test_number_and_value(self):
        for counter, lot, sight, starts in self.cases():
            for start in starts:
                number = how_many(counter, lot, sight, start)
                found = ahead_from(counter, lot, sight, start)
                came = outcome(nth_of, counter, lot, sight, number)
                self.assertEqual(came, raised(Unfit()) if found is None else returned(found))
                if found is not None:
                    self.assertEqual(how_many(counter, lot, sight, found), number)
                    self.assertEqual(how_many(counter, lot, sight, found + 1), number + 1)

    def test_more_places_are_never_nearer(self):
        for counter, lot, sight, starts in self.cases():
            for dropped in range(len(lot) if len(lot) > 1 else 0):
                lesser = lot[:dropped] + lot[dropped + 1:]
                lesser_sight = sight[:dropped] + sight[dropped + 1:]
                for start in starts:
                    found = ahead_from(counter, lot, sight, start)
                    if found is not None:
                        nearer = ahead_from(counter, lesser, lesser_sight, start)
                        self.assertIsNotNone(nearer)
                        self.assertLessEqual(nearer, found)


class CallsTest(unittest.TestCase):

    def test_calls(self):
        clock = (60, 60, 24)
        for function, last in ((ahead_from, "start"), (back_to, "start"), (how_many, "limit"), (nth_of, "number")):
            check_calls(self, function, ("counter", "lot", "sight", last), [
                (clock, (0, 2), (30, 5), 18479), (clock, (1,), (7,), 86399), (TWELVE, (3, 4), (0, 9), 10 ** 70),
            ])


if __name__ == "__main__":
    unittest.main()
