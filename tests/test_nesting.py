"""I5 and I6: right clocks that are as long as can be."""

import itertools
import unittest

from tests.helper import check_calls, clock_runs, is_torn, outcome, plain_torn, raised
from tornreads.clocks import clock_error, cut_bound, torn_word
from tornreads.errors import TooMany, Unfit
from tornreads.nesting import nested_clock


def alike_from_both_ends(many):
    """All sizes of so many cells that read alike from both ends."""
    for half in itertools.product(range(2, 11), repeat=(many + 1) // 2):
        yield half + half[:many // 2][::-1]


class NestedClockTest(unittest.TestCase):

    def check(self, sizes):
        """All but that it is right."""
        clock = nested_clock(sizes)
        self.assertIsNone(clock_error(sizes, clock), sizes)
        self.assertEqual(len(clock), cut_bound(sizes))
        for word, after in zip(clock, clock[1:]):
            self.assertEqual(sum(one != other for one, other in zip(word, after)), 1, sizes)
        return clock

    def test_all_sizes_up_to_eight_cells(self):
        long, short = 0, 0
        for many in range(1, 9):
            for sizes in alike_from_both_ends(many):
                self.assertEqual(sizes, sizes[::-1])
                if cut_bound(sizes) > 200:
                    long += 1
                    self.assertEqual(outcome(nested_clock, sizes), raised(TooMany(200)), sizes)
                else:
                    short += 1
                    clock = self.check(sizes)
                    if len(clock) <= 60:
                        self.assertIsNone(torn_word(sizes, clock), sizes)
        self.assertGreater(long, 10000)
        self.assertGreater(short, 300)

    def test_small_ones_beside_all_runs(self):
        for many in range(1, 6):
            for sizes in alike_from_both_ends(many):
                if cut_bound(sizes) <= 20:
                    self.assertFalse(is_torn(clock_runs(sizes, nested_clock(sizes))), sizes)

    def test_long_ones_are_right(self):
        for sizes in ((10, 10, 10, 10), (2, 10, 9, 10, 2), (5, 5, 7, 5, 5), (3, 4, 5, 5, 4, 3), (2, 3, 4, 6, 4, 3, 2),
                      (2, 3, 2, 8, 8, 2, 3, 2), (9, 9, 9), (10, 10, 10)):
            self.assertGreater(len(self.check(sizes)), 60)
            self.assertFalse(plain_torn(nested_clock(sizes)), sizes)

    def test_as_many_states_as_may_be(self):
        # No sizes let just 200: the most is 199, and the next one is 209.
        bounds = sorted({cut_bound(sizes) for many in range(1, 9) for sizes in alike_from_both_ends(many)})
        self.assertEqual([bound for bound in bounds if 199 <= bound <= 209], [199, 209])
        for sizes in ((10, 10, 10, 10), (2, 10, 9, 10, 2), (5, 5, 7, 5, 5), (5, 2, 10, 10, 2, 5)):
            self.assertEqual(len(self.check(sizes)), 199)
        for sizes in ((3, 7, 9, 7, 3), (5, 6, 6, 6, 5), (5, 3, 7, 7, 3, 5)):
            self.assertEqual(cut_bound(sizes), 209)
            self.assertEqual(outcome(nested_clock, sizes), raised(TooMany(200)))

    def test_one_cell_and_two(self):
        for size in range(2, 11):
            self.assertEqual(sorted(self.check((size,))), [(sign,) for sign in range(size)])
            self.assertEqual(len(self.check((size, size))), 2 * size - 1)

    def test_unfit(self):
        for many in range(2, 5):
            for sizes in itertools.product((2, 3, 10), repeat=many):
                if sizes != sizes[::-1]:
                    self.assertEqual(outcome(nested_clock, sizes), raised(Unfit()), sizes)
        for sizes in ((2, 3, 2, 2), (2, 3, 3, 3, 2, 2), (2, 2, 2, 2, 2, 2, 2, 3)):
            self.assertEqual(outcome(nested_clock, sizes), raised(Unfit()), sizes)

    def test_unfit_ahead_of_too_many(self):
        for sizes in ((10, 10, 10, 10, 10, 9), (9,) + (10,) * 7, (10, 10, 2, 10, 9)):
            self.assertGreater(cut_bound(sizes), 200)
            self.assertEqual(outcome(nested_clock, sizes), raised(Unfit()))
        for sizes in ((10,) * 5, (10,) * 8, (10, 10, 2, 10, 10)):
            self.assertEqual(outcome(nested_clock, sizes), raised(TooMany(200)))

    def test_cut_and_turned_about(self):
        for sizes in ((2, 2), (3, 2, 3), (2, 3, 3, 2), (2, 2, 2, 2, 2), (2,) * 8):
            clock = nested_clock(sizes)
            turned = tuple([word[::-1] for word in reversed(clock)])
            self.assertIsNone(torn_word(sizes, turned), sizes)
            for begin in range(0, len(clock), 3):
                for end in range(begin + 1, len(clock) + 1, 4):
                    self.assertIsNone(torn_word(sizes, clock[begin:end]), sizes)

    def test_none_is_longer(self):
        for sizes in ((2, 2), (3, 2, 3), (2, 3, 3, 2), (3, 3)):
            clock = nested_clock(sizes)
            for word in itertools.product(*[range(size) for size in sizes]):
                self.assertIsNotNone(torn_word(sizes, clock + (word,)))
                self.assertIsNotNone(torn_word(sizes, (word,) + clock))

    def test_calls(self):
        calls = [((2, 2),), ((4,),), ((2, 3),), ((10,) * 8,), ((2, 3, 3, 2),), ((2,) * 8,)]
        check_calls(self, nested_clock, ("sizes",), calls)


if __name__ == "__main__":
    unittest.main()
