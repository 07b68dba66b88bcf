"""C3, C4 and C5: runs, and what is sure when a word was read."""

import itertools
import unittest

from tests.helper import (
    all_words, check_calls, outcome, plain_ahead, plain_back, plain_digits, plain_size, raised, rows_up_to,
    runs_by_word,
)
from tornreads.errors import NoRun
from tornreads.rows import run_error
from tornreads.runs import greatest_run, least_run, stuck_at, word_of
from tornreads.sureness import stood_at, sure_of, two_apart, window_of

TWO, DOWN, MIRROR = (10, 10), ((1,), (0,)), ((1,), (0,), (1,))
TWELVE = (10 ** 6,) * 12
# Counters with rows so short that all their runs can be gone through.
SMALL = (
    [((4,), row) for row in rows_up_to((4,), 4)]
    + [(counter, row) for counter in ((2, 2), (3, 2), (2, 3)) for row in rows_up_to(counter, 3)]
    + [((2, 2, 2), row) for row in rows_up_to((2, 2, 2), 2)]
    + [((2, 2, 2), row) for row in (
        ((2,), (1,), (0,)), ((0,), (1,), (2,)), ((0, 2), (1,), (0,)), ((2,), (0, 1), (2,)), ((1,), (1,), (1,)),
        ((1,), (0,), (1,), (2,)), ((0,), (0, 1), (0,), (1, 2)))]
)


def small_words():
    """For each small counter and row each word with all runs that read it, [] if none does."""
    for counter, row in SMALL:
        readers = runs_by_word(counter, row)
        for word in all_words(counter, row):
            yield counter, row, word, readers.get(word, [])


def read_words():
    """Those of small_words that some run reads."""
    return [item for item in small_words() if item[3] != []]


class RunsTest(unittest.TestCase):

    def test_word_of(self):
        for counter, row in SMALL:
            for word, readers in runs_by_word(counter, row).items():
                for run in readers:
                    self.assertEqual(word_of(counter, row, run), word)

    def test_stuck_at(self):
        for counter, row in SMALL:
            begun = [runs_by_word(counter, row[:k + 1]) for k in range(len(row))]
            for word in all_words(counter, row):
                due = [k for k in range(len(row)) if word[:k + 1] not in begun[k]]
                self.assertEqual(stuck_at(counter, row, word), due[0] if due else None, (counter, row, word))
                self.assertNotEqual(due[:1], [0])

    def test_least_and_greatest_run(self):
        for counter, row, word, readers in small_words():
            least = tuple([min(numbers) for numbers in zip(*readers)]) if readers else None
            greatest = tuple([max(numbers) for numbers in zip(*readers)]) if readers else None
            self.assertEqual(repr(least_run(counter, row, word)), repr(least), (counter, row, word))
            self.assertEqual(repr(greatest_run(counter, row, word)), repr(greatest), (counter, row, word))
            self.assertTrue(readers == [] or least in readers and greatest in readers)

    def test_lesser_and_greater_of_two_runs(self):
        for counter, row, word, readers in read_words():
            for one, other in itertools.combinations(readers[:12], 2):
                for choose in (min, max):
                    run = tuple([choose(pair) for pair in zip(one, other)])
                    self.assertIsNone(run_error(counter, row, run))
                    self.assertEqual(word_of(counter, row, run), word)

    def test_from_the_least_run_to_the_greatest_one(self):
        for counter, row, word, _ in read_words():
            least, greatest = least_run(counter, row, word), greatest_run(counter, row, word)
            for k in range(len(row) + 1):
                run = least[:k] + greatest[k:]
                self.assertIsNone(run_error(counter, row, run))
                self.assertEqual(word_of(counter, row, run), word)


class SurenessTest(unittest.TestCase):

    def test_window_of(self):
        for counter, row, word, readers in read_words():
            begins, ends = [run[0] for run in readers], [run[-1] for run in readers]
            due = (min(begins), max(begins), min(ends), max(ends))
            self.assertEqual(repr(window_of(counter, row, word)), repr(due), (counter, row, word))

    def test_sure_of(self):
        for counter, row, word, readers in read_words():
            every = range(plain_size(counter))
            sure = [v for v in every if all(run[0] <= v <= run[-1] for run in readers)]
            pair = sure_of(counter, row, word)
            self.assertEqual(repr(pair), repr((sure[0], sure[-1]) if sure else None), (counter, row, word))

    def test_two_apart(self):
        for counter, row, word, readers in read_words():
            apart = any(one[-1] < other[0] for one in readers for other in readers)
            pair = two_apart(counter, row, word)
            self.assertEqual(pair is not None, apart, (counter, row, word))
            self.assertEqual(pair is None, sure_of(counter, row, word) is not None)
            if pair is not None:
                self.assertIs(type(pair), tuple)
                one, other = pair
                self.assertIn(one, readers)
                self.assertIn(other, readers)
                self.assertLess(one[-1], other[0])

    def test_stood_at(self):
        for counter, row, word, readers in read_words():
            for number in range(plain_size(counter)):
                stood = [run[0] <= number <= run[-1] for run in readers]
                due = "surely" if all(stood) else "perhaps" if any(stood) else "never"
                self.assertEqual(stood_at(counter, row, word, number), due, (counter, row, word, number))

    def test_no_run(self):
        met = set()
        for counter, row, word, readers in small_words():
            if readers == []:
                place = stuck_at(counter, row, word)
                met.add(place)
                for function in (window_of, sure_of, two_apart):
                    self.assertEqual(outcome(function, counter, row, word), raised(NoRun(place)))
                for number in (0, plain_size(counter) - 1):
                    self.assertEqual(outcome(stood_at, counter, row, word, number), raised(NoRun(place)))
        self.assertEqual(met, {1, 2, 3})

    def test_one_read(self):
        self.assertEqual([stood_at(TWO, ((1,),), ((3,),), number) for number in (29, 30, 39, 40)],
                         ["never", "perhaps", "perhaps", "never"])
        self.assertEqual([stood_at(TWO, ((0,),), ((5,),), number) for number in (5, 15, 16, 14, 95, 96, 0)],
                         ["perhaps", "perhaps", "never", "never", "perhaps", "never", "never"])
        self.assertEqual([stood_at(TWO, ((0, 1),), ((5, 3),), number) for number in (34, 35, 36)],
                         ["never", "surely", "never"])
        self.assertEqual(sure_of(TWO, ((0, 1),), ((5, 3),)), (35, 35))
        self.assertIsNone(sure_of(TWO, ((0,),), ((5,),)))

    def test_two_reads_alike(self):
        twice = ((0,), (0,))
        self.assertEqual(stood_at(TWO, twice, ((5,), (5,)), 6), "perhaps")
        self.assertEqual([stood_at(TWO, twice, ((5,), (5,)), number) for number in (4, 5, 95, 96)],
                         ["never", "perhaps", "perhaps", "never"])


class ReadMoreTest(unittest.TestCase):

    def longer(self, counter, row, word):
        """The row and word with a read more, at each place, where some run reads them."""
        lots = ((0,), (len(counter) - 1,), tuple(range(len(counter))))
        for at, lot in itertools.product(range(len(row) + 1), lots):
            for (sight,) in all_words(counter, (lot,)):
                longer = row[:at] + (lot,) + row[at:]
                longer_word = word[:at] + (sight,) + word[at:]
                if stuck_at(counter, longer, longer_word) is None:
                    yield at, longer, longer_word

    def cases(self):
        for counter, row, word, _ in read_words():
            if len(row) < 3:
                for at, longer, longer_word in self.longer(counter, row, word):
                    yield counter, row, word, at, longer, longer_word

    def test_runs_come_nearer(self):
        for counter, row, word, at, longer, longer_word in self.cases():
            least = least_run(counter, longer, longer_word)
            greatest = greatest_run(counter, longer, longer_word)
            for number, before in zip(least[:at] + least[at + 1:], least_run(counter, row, word)):
                self.assertGreaterEqual(number, before)
            for number, before in zip(greatest[:at] + greatest[at + 1:], greatest_run(counter, row, word)):
                self.assertLessEqual(number, before)

    def test_no_window_gets_wider(self):
        between = 0
        for counter, row, word, at, longer, longer_word in self.cases():
            if 0 < at < len(row):
                between += 1
                before, window = window_of(counter, row, word), window_of(counter, longer, longer_word)
                self.assertGreaterEqual(window[0], before[0])
                self.assertGreaterEqual(window[2], before[2])
                self.assertLessEqual(window[1], before[1])
                self.assertLessEqual(window[3], before[3])
        self.assertGreater(between, 100)


class GreatTest(unittest.TestCase):

    def reads(self, many):
        """A row of so many reads, and a run of it that goes ahead by unlike steps, and stands now and then."""
        lots = ((11,), (0, 5), (3,), (1, 2, 10), (0,), (4, 11), (6, 7, 8, 9))
        row = tuple([lots[k % len(lots)] for k in range(many)])
        run = [7 * 10 ** 66 + 5]
        for k in range(1, many):
            run.append(run[-1] + (k % 3) * (999999999989 ** (k % 6)) + (k % 2))
        return row, tuple(run)

    def check(self, many):
        row, run = self.reads(many)
        self.assertIsNone(run_error(TWELVE, row, run))
        word = word_of(TWELVE, row, run)
        least, greatest = [], []
        for lot, sight in zip(row, word):
            least.append(plain_ahead(TWELVE, lot, sight, least[-1] if least else 0))
        for lot, sight in reversed(list(zip(row, word))):
            greatest.append(plain_back(TWELVE, lot, sight, greatest[-1] if greatest else 10 ** 72 - 1))
        greatest.reverse()
        self.assertIsNone(stuck_at(TWELVE, row, word))
        self.assertEqual(least_run(TWELVE, row, word), tuple(least))
        self.assertEqual(greatest_run(TWELVE, row, word), tuple(greatest))
        for low, number, high in zip(least, run, greatest):
            self.assertLessEqual(low, number)
            self.assertLessEqual(number, high)
        self.assertEqual(window_of(TWELVE, row, word), (least[0], greatest[0], least[-1], greatest[-1]))
        begin, end = greatest[0], least[-1]
        self.assertEqual(sure_of(TWELVE, row, word), (begin, end) if begin <= end else None)
        self.assertEqual(two_apart(TWELVE, row, word) is None, begin <= end)
        self.assertEqual(stood_at(TWELVE, row, word, least[0]), "surely" if begin <= least[0] else "perhaps")
        self.assertEqual(stood_at(TWELVE, row, word, greatest[-1] + 1), "never")

    def test_row_lengths(self):
        for many in (1, 2, 39, 40, 41, 100, 480):
            with self.subTest(many=many):
                self.check(many)

    def test_stuck_behind_many_reads(self):
        for many in (40, 41, 480):
            row, run = self.reads(many)
            every = tuple(range(12))
            back = tuple([(run[0] - 1) // 10 ** (6 * place) % 10 ** 6 for place in every])
            now = tuple([run[0] // 10 ** (6 * place) % 10 ** 6 for place in every])
            longer, word = (every,) + row + (every,), (now,) + word_of(TWELVE, row, run) + (back,)
            with self.subTest(many=many):
                self.assertEqual(stuck_at(TWELVE, longer, word), many + 1)
                self.assertIsNone(least_run(TWELVE, longer, word))
                self.assertIsNone(greatest_run(TWELVE, longer, word))
                for function in (window_of, sure_of, two_apart):
                    self.assertEqual(outcome(function, TWELVE, longer, word), raised(NoRun(many + 1)))
                self.assertEqual(outcome(stood_at, TWELVE, longer, word, 0), raised(NoRun(many + 1)))

    def test_all_places_at_one_moment(self):
        every = tuple(range(12))
        sight = tuple(range(12))
        number = sum(place * 10 ** (6 * place) for place in every)
        row, word = (every,) * 50, (sight,) * 50
        self.assertEqual(least_run(TWELVE, row, word), (number,) * 50)
        self.assertEqual(greatest_run(TWELVE, row, word), (number,) * 50)
        self.assertEqual(sure_of(TWELVE, row, word), (number, number))
        self.assertEqual(stood_at(TWELVE, row, word, number), "surely")
        self.assertEqual(stood_at(TWELVE, row, word, number + 1), "never")


class CallsTest(unittest.TestCase):

    def test_calls(self):
        names = ("counter", "row", "word")
        calls = [
            (TWO, DOWN, ((3,), (5,))), (TWO, MIRROR, ((3,), (5,), (3,))), (TWO, MIRROR, ((3,), (5,), (2,))),
            (TWO, ((0,),), ((5,),)), (TWELVE, ((0, 11),) * 41, ((1, 2),) * 41),
        ]
        for function in (stuck_at, least_run, greatest_run, window_of, sure_of, two_apart):
            check_calls(self, function, names, calls)
        check_calls(self, stood_at, names + ("number",), [call + (35,) for call in calls])
        check_calls(self, word_of, ("counter", "row", "run"), [(TWO, DOWN, (39, 45)), (TWELVE, DOWN, (5, 10 ** 71))])


if __name__ == "__main__":
    unittest.main()
