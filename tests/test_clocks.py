"""I2, I3, I4 and I6: sizes, clocks that are read once, what they leave sure, and how long they can be."""

import itertools
import random
import unittest

from tests.helper import ODD_VALUES, check_calls, clock_runs, is_torn, outcome, plain_torn, raised, returned
from tornreads.clocks import clock_error, clock_sure, cut_bound, sizes_error, torn_word
from tornreads.errors import NoRun, TooMany

ODD_ITEMS = (-1, True, False, None, "0", (0,), [0], {}, 10 ** 399, -10 ** 399)
SHORT, CIRCLE = ((0, 0), (1, 0), (1, 1)), ((0, 0), (0, 1), (1, 1), (1, 0))


def all_words(sizes):
    return list(itertools.product(*[range(size) for size in sizes]))


def random_clock(pick, sizes, many):
    return tuple([tuple([pick.randrange(size) for size in sizes]) for _ in range(many)])


def slow_clock(pick, sizes, many):
    """A clock that changes one cell at each step, and the first ones seldom."""
    word = [0] * len(sizes)
    words = [tuple(word)]
    while len(words) < many:
        cell = max(pick.randrange(len(sizes)), pick.randrange(len(sizes)))
        word[cell] = (word[cell] + 1) % sizes[cell]
        words.append(tuple(word))
    return tuple(words)


class SizesErrorTest(unittest.TestCase):

    def check(self, value, due):
        self.assertEqual(outcome(sizes_error, value), returned(due), value)

    def test_form(self):
        for value in ODD_VALUES:
            if not isinstance(value, tuple) or len(value) == 0:
                self.check(value, "form")
        for many in range(1, 9):
            self.check((2,) * many, None)
        for many in (9, 10, 60):
            self.check((2,) * many, "form")
        self.check([2, 2], "form")
        self.check((True,) * 9, "form")

    def test_size(self):
        for size in range(2, 11):
            self.check((size,), None)
            self.check((2, size, 10), None)
        for size in (0, 1, 11, 12) + ODD_ITEMS:
            self.check((size,), ("size", 0))
            self.check((2, 10, size), ("size", 2))
            self.check((2,) * 7 + (size,), ("size", 7))

    def test_two_faults(self):
        self.check((2, 1, 11, None), ("size", 1))
        self.check((11, 1), ("size", 0))
        self.check((1,) * 9, "form")


class ClockErrorTest(unittest.TestCase):

    def check(self, sizes, value, due):
        self.assertEqual(outcome(clock_error, sizes, value), returned(due), (sizes, str(value)[:200]))

    def test_form(self):
        for value in ODD_VALUES:
            if not isinstance(value, tuple) or len(value) == 0:
                self.check((2, 2), value, "form")
        for many in (1, 2, 60, 61, 199, 200):
            self.check((2, 2), ((0, 1),) * many, None)
        for many in (201, 202, 1000):
            self.check((2, 2), ((0, 1),) * many, "form")
        self.check((2, 2), list(SHORT), "form")

    def test_word(self):
        for item in ODD_VALUES + ((0,), (0, 0, 0), [0, 0], "00", {0: 0, 1: 0}):
            self.check((2, 2), (item,), ("word", 0))
            self.check((2, 2), SHORT + (item, None), ("word", 3))
            self.check((2, 2), ((0, 1),) * 199 + (item,), ("word", 199))

    def test_signs(self):
        sizes = (2, 10, 3)
        for cell, size in enumerate(sizes):
            for sign in range(size):
                self.check(sizes, ((0,) * cell + (sign,) + (0,) * (2 - cell),), None)
            for sign in (size, size + 1) + ODD_ITEMS:
                word = (0,) * cell + (sign,) + (0,) * (2 - cell)
                self.check(sizes, ((0, 0, 0), word), ("word", 1))

    def test_eight_cells(self):
        for many in range(1, 9):
            self.check((10,) * many, ((9,) * many,) * 3, None)
            self.check((10,) * many, ((9,) * many, (9,) * (many - 1) + (10,)), ("word", 1))

    def test_two_faults(self):
        self.check((2, 2), ((0, 2), (2, 0), None), ("word", 0))
        self.check((2, 2), ((0, 0), (0, 0, 0), None), ("word", 1))
        self.check((2, 2), ((0, 2),) * 201, "form")


class TornWordTest(unittest.TestCase):

    def judge(self, sizes, clock, found):
        """Two runs read the word, and the one is over ahead of the other."""
        self.assertIs(type(found), tuple)
        word, one, other = found
        for run in (one, other):
            self.assertIs(type(run), tuple)
            self.assertEqual(len(run), len(sizes))
            self.assertTrue(all(type(state) is int and 0 <= state < len(clock) for state in run))
            self.assertEqual(list(run), sorted(run))
            self.assertEqual(repr(tuple([clock[state][cell] for cell, state in enumerate(run)])), repr(word))
        self.assertLess(one[-1], other[0])

    def check(self, sizes, clock):
        """torn_word and clock_sure beside all runs; whether the clock is right."""
        found = clock_runs(sizes, clock)
        torn = torn_word(sizes, clock)
        self.assertEqual(torn is not None, is_torn(found), (sizes, clock))
        if torn is not None:
            self.judge(sizes, clock, torn)
        for word in all_words(sizes):
            came = outcome(clock_sure, sizes, clock, word)
            if word in found:
                begin, end = max(run[0] for run in found[word]), min(run[-1] for run in found[word])
                self.assertEqual(came, returned((begin, end) if begin <= end else None), (sizes, clock, word))
                lying = [state for state in range(len(clock)) if all(run[0] <= state <= run[-1] for run in found[word])]
                self.assertEqual(lying, list(range(begin, end + 1)))
            else:
                self.assertEqual(came, raised(NoRun(self.place(clock, word))), (sizes, clock, word))
        return torn is None

    def place(self, clock, word):
        """The least number of a sign up to which no run reads the signs."""
        return [k for k in range(len(word)) if word[:k + 1] not in clock_runs((0,) * (k + 1), clock)][0]

    def test_all_small_clocks(self):
        for sizes, many in (((2,), 5), ((3,), 4), ((2, 2), 5), ((2, 3), 3), ((3, 2), 3), ((2, 2, 2), 3)):
            right = 0
            for states in range(1, many + 1):
                for clock in itertools.product(all_words(sizes), repeat=states):
                    right += self.check(sizes, clock)
            self.assertGreater(right, 1)

    def test_random_clocks(self):
        pick = random.Random(3)
        right = 0
        for number in range(400):
            sizes = tuple([pick.randrange(2, 5) for _ in range(pick.randrange(1, 5))])
            make = slow_clock if number % 2 else random_clock
            right += self.check(sizes, make(pick, sizes, pick.randrange(1, 9)))
        self.assertGreater(right, 30)

    def test_right_exactly_if_each_word_leaves_a_state(self):
        pick = random.Random(4)
        told = {True: 0, False: 0}
        for _ in range(200):
            sizes = tuple([pick.randrange(2, 4) for _ in range(pick.randrange(1, 4))])
            clock = slow_clock(pick, sizes, pick.randrange(1, 8))
            sure = all(clock_sure(sizes, clock, word) is not None for word in clock_runs(sizes, clock))
            told[sure] += 1
            self.assertEqual(torn_word(sizes, clock) is None, sure)
        self.assertGreater(min(told.values()), 20)

    def test_one_cell(self):
        for many in range(1, 11):
            clock = tuple([(sign,) for sign in range(many)])
            self.assertIsNone(torn_word((10,), clock))
            for again in range(many):
                self.judge((10,), clock + ((again,),), torn_word((10,), clock + ((again,),)))

    def test_sixty_states(self):
        for many in (1, 59, 60):
            torn = torn_word((2,) * 3, ((0, 1, 0),) * many)
            self.assertEqual(torn is None, many == 1)
            if torn is not None:
                self.judge((2,) * 3, ((0, 1, 0),) * many, torn)
        for many in (61, 62, 199, 200):
            self.assertEqual(outcome(torn_word, (2,) * 3, ((0, 1, 0),) * many), raised(TooMany(60)))

    def test_long_clocks_of_eight_cells(self):
        pick = random.Random(8)
        for size in (2, 3, 5, 10):
            sizes = (size,) * 8
            for make in (random_clock, slow_clock):
                for many in (30, 60):
                    clock = make(pick, sizes, many)
                    torn = torn_word(sizes, clock)
                    self.assertEqual(torn is not None, plain_torn(clock))
                    if torn is not None:
                        self.judge(sizes, clock, torn)
        self.judge((2,) * 8, ((1,) * 8,) * 60, torn_word((2,) * 8, ((1,) * 8,) * 60))

    def test_great_right_clocks(self):
        # The first cells count up while the last ones stand, then the other way about.
        for sizes in ((10,) * 8, (2, 3, 4, 5, 6, 7, 8, 9)):
            clock = [(0,) * 8]
            for cell, size in enumerate(sizes):
                for sign in range(1, size):
                    clock.append(clock[-1][:cell] + (sign,) + clock[-1][cell + 1:])
            clock = tuple(clock[:60])
            torn = torn_word(sizes, clock)
            self.assertEqual(torn is not None, plain_torn(clock))


class ClockSureTest(unittest.TestCase):

    def plain(self, clock, word):
        """What is sure, by going ahead to the next state that shows a sign, and back to the last one."""
        ahead, back = [], []
        state = 0
        for cell, sign in enumerate(word):
            near = [at for at in range(state, len(clock)) if clock[at][cell] == sign]
            if not near:
                return raised(NoRun(cell))
            state = near[0]
            ahead.append(state)
        state = len(clock) - 1
        for cell in range(len(word) - 1, -1, -1):
            state = [at for at in range(state + 1) if clock[at][cell] == word[cell]][-1]
            back.append(state)
        return returned((back[-1], ahead[-1]) if back[-1] <= ahead[-1] else None)

    def test_two_hundred_words(self):
        pick = random.Random(9)
        for size in (2, 4, 10):
            sizes = (size,) * 8
            for clock in (random_clock(pick, sizes, 200), slow_clock(pick, sizes, 200), ((1,) * 8,) * 200):
                self.assertIsNone(clock_error(sizes, clock))
                words = [tuple([pick.randrange(size) for _ in sizes]) for _ in range(60)]
                words.extend([clock[at] for at in range(0, 200, 9)])
                for word in words:
                    self.assertEqual(outcome(clock_sure, sizes, clock, word), self.plain(clock, word), (clock, word))

    def test_places_of_no_run(self):
        clock = ((0, 1, 0), (1, 0, 1), (1, 1, 1))
        for word, place in (((0, 0, 0), 2), ((1, 0, 0), 2), ((1, 1, 0), 2)):
            self.assertEqual(outcome(clock_sure, (2, 2, 2), clock, word), raised(NoRun(place)))
        self.assertEqual(outcome(clock_sure, (2, 2, 2), ((0, 1, 0),), (1, 0, 1)), raised(NoRun(0)))
        self.assertEqual(outcome(clock_sure, (2, 2, 2), ((0, 1, 0),), (0, 0, 1)), raised(NoRun(1)))
        self.assertEqual(outcome(clock_sure, (2, 2, 2), ((0, 0, 0), (1, 1, 0)), (1, 0, 0)), raised(NoRun(1)))


class CutBoundTest(unittest.TestCase):

    def test_beside_all_cuts(self):
        every = [sizes for many in range(1, 6) for sizes in itertools.product((2, 3, 5, 10), repeat=many)]
        every.extend([(2,) * 8, (10,) * 8, (2, 10) * 4, (10, 2, 2, 2, 2, 2, 2, 2), (2, 2, 2, 2, 2, 2, 2, 10), (10,) * 7])
        for sizes in every:
            bounds = []
            for cut in range(len(sizes) + 1):
                left = right = 1
                for cell, size in enumerate(sizes):
                    left, right = (left * size, right) if cell < cut else (left, right * size)
                bounds.append(left + right - 1)
            self.assertEqual(outcome(cut_bound, sizes), returned(min(bounds)), sizes)

    def test_one_cell(self):
        for size in range(2, 11):
            self.assertEqual(cut_bound((size,)), size)

    def test_no_right_clock_is_longer(self):
        for sizes in ((2,), (3,), (2, 2), (2, 3), (3, 2)):
            longest = 0
            for many in range(1, cut_bound(sizes) + 2):
                if len(all_words(sizes)) ** many < 10000:
                    clocks = itertools.product(all_words(sizes), repeat=many)
                    if any(torn_word(sizes, clock) is None for clock in clocks):
                        longest = many
            self.assertEqual(longest, cut_bound(sizes))


class WhatHoldsTest(unittest.TestCase):
    """I6: a right clock cut at both ends, and turned about, is right."""

    def right_clocks(self):
        pick = random.Random(10)
        for _ in range(400):
            sizes = tuple([pick.randrange(2, 4) for _ in range(pick.randrange(1, 5))])
            clock = slow_clock(pick, sizes, pick.randrange(2, 9))
            if torn_word(sizes, clock) is None:
                yield sizes, clock

    def test_cut_at_both_ends(self):
        cases = list(self.right_clocks())
        self.assertGreater(len(cases), 40)
        for sizes, clock in cases:
            for begin, end in itertools.combinations(range(len(clock) + 1), 2):
                self.assertIsNone(torn_word(sizes, clock[begin:end]), (sizes, clock))

    def test_turned_about(self):
        for sizes, clock in self.right_clocks():
            turned = tuple([word[::-1] for word in reversed(clock)])
            self.assertIsNone(torn_word(sizes[::-1], turned), (sizes, clock))

    def test_no_longer_than_each_cut_lets(self):
        for sizes, clock in self.right_clocks():
            self.assertLessEqual(len(clock), cut_bound(sizes))

    def test_torn_ones_stay_torn_with_more(self):
        pick = random.Random(13)
        for _ in range(100):
            clock = random_clock(pick, (2, 3, 2), 6)
            if torn_word((2, 3, 2), clock) is not None:
                for more in ((0, 0, 0), (1, 2, 1)):
                    self.assertIsNotNone(torn_word((2, 3, 2), clock + (more,)))
                    self.assertIsNotNone(torn_word((2, 3, 2), (more,) + clock))


class CallsTest(unittest.TestCase):

    def test_calls(self):
        values = [(2, 2), [2, 2], (2, 1), (True,), {"a": [1]}, None, ([2], {}), ((2,), 2)]
        check_calls(self, sizes_error, ("value",), [(value,) for value in values])
        values = [SHORT, list(SHORT), ([0, 0],), ((0, True),), {"a": [1]}, None, ((0, 0), [{}])]
        check_calls(self, clock_error, ("sizes", "value"), [((2, 2), value) for value in values])
        clocks = [((2, 2), SHORT), ((2, 2), CIRCLE), ((2, 2), SHORT * 20), ((2, 2), SHORT * 21), ((2,), ((0,), (1,)))]
        check_calls(self, torn_word, ("sizes", "clock"), clocks)
        words = [(0,), (1,)]
        calls = [(sizes, clock, word * len(sizes)) for sizes, clock in clocks for word in words]
        calls.append(((2, 2), ((0, 0), (1, 1)), (1, 0)))
        check_calls(self, clock_sure, ("sizes", "clock", "word"), calls)
        check_calls(self, cut_bound, ("sizes",), [((2, 2),), ((10,) * 8,), ((7,),)])


if __name__ == "__main__":
    unittest.main()
