"""G2, G3 and G4: logs of readings, and what these tell together."""

import itertools
import random
import unittest

from tests.helper import (
    ODD_VALUES, all_words, check_calls, outcome, plain_ahead, plain_back, raised, returned, rows_up_to, runs_by_word,
)
from tornreads.errors import NoRun
from tornreads.readings import joined_log, log_error, log_sures, log_windows, most_gone, now_of
from tornreads.rows import row_error, word_error
from tornreads.runs import stuck_at, word_of
from tornreads.sureness import sure_of, window_of

TWO, DOWN, MIRROR, FULL = (10, 10), ((1,), (0,)), ((1,), (0,), (1,)), ((0, 1),)
FIRST, SECOND = (DOWN, ((3,), (5,))), (((0,),), ((2,),))
TWELVE = (10 ** 6,) * 12
SMALL = (
    [((4,), row) for row in rows_up_to((4,), 4)]
    + [(counter, row) for counter in ((2, 2), (3, 2)) for row in rows_up_to(counter, 3)]
    + [((2, 2, 2), row) for row in (
        ((2,), (1,), (0,), (2,)), ((0, 2), (1,), (0,), (1,)), ((1,), (0,), (1, 2), (0,)), ((0,), (0, 1), (2,), (1,)))]
)


def cut_logs(row, word):
    """All logs whose joined row and word are row and word."""
    for cuts in itertools.product((False, True), repeat=len(row) - 1):
        ends = [k + 1 for k, cut in enumerate(cuts) if cut] + [len(row)]
        begins = [0] + ends[:-1]
        yield tuple([(row[begin:end], word[begin:end]) for begin, end in zip(begins, ends)])


def small_logs():
    """For each small counter each log with all runs of the joined row that read it, [] if none does."""
    for counter, row in SMALL:
        readers = runs_by_word(counter, row)
        for word in all_words(counter, row):
            for log in cut_logs(row, word):
                yield counter, log, readers.get(word, [])


def spans(log):
    """For each reading the numbers of its first and its last read in the joined row."""
    lengths = [len(row) for row, _ in log]
    return [(sum(lengths[:k]), sum(lengths[:k + 1]) - 1) for k in range(len(log))]


class LogErrorTest(unittest.TestCase):

    def check(self, value, due):
        self.assertEqual(outcome(log_error, TWO, value), returned(due), value)

    def test_form(self):
        for value in ODD_VALUES:
            if not isinstance(value, tuple) or len(value) == 0:
                self.check(value, "form")
        self.check((FIRST,) * 12, None)
        self.check((FIRST,) * 13, "form")
        self.check((None,) * 13, "form")
        self.check((), "form")
        self.check([FIRST], "form")
        self.check((FIRST,), None)

    def test_no_pair(self):
        for value in ODD_VALUES:
            if not isinstance(value, tuple) or len(value) != 2:
                self.check((FIRST, value), ("reading", 1, "form"))
                self.check((value,), ("reading", 0, "form"))
        self.check((FIRST, list(FIRST)), ("reading", 1, "form"))
        self.check((FIRST + (1,),), ("reading", 0, "form"))
        self.check(FIRST, ("reading", 0, ("row", ("lot", 0, "form"))))

    def test_rows_that_are_wrong(self):
        rows = tuple([value for value in ODD_VALUES if value != ((0,),)]) + (((2,),), ((0,), (1, 0)), ((0,),) * 41, ((True,),), (((0,),),), ((0, None),), [(0,)])
        for row in rows:
            error = row_error(TWO, row)
            self.assertIsNotNone(error)
            self.check((FIRST, SECOND, (row, ((1,),)), None), ("reading", 2, ("row", error)))
        self.check(((((0,),) * 40, ((5,),) * 40),), None)

    def test_words_that_are_wrong(self):
        words = ODD_VALUES + (((3,),), ((3,), (10,)), ((3,), [5]), ((True,), (5,)), ((3,), (5,), (3,)), ((3,), (-1,)),
                              [(3,), (5,)], ((3, 5), (5,)), ((None,), (5,)))
        for word in words:
            error = word_error(TWO, DOWN, word)
            self.assertIsNotNone(error)
            self.check(((DOWN, word), FIRST), ("reading", 0, ("word", error)))
            self.check((FIRST, (DOWN, word)), ("reading", 1, ("word", error)))

    def test_two_faults(self):
        self.check((FIRST, (None, None)), ("reading", 1, ("row", "form")))
        self.check(((DOWN, None), None), ("reading", 0, ("word", "form")))
        self.check((None, (DOWN, None)), ("reading", 0, "form"))
        self.check((FIRST, (((0,), (2,)), ((10,), (0,)))), ("reading", 1, ("row", ("lot", 1, ("place", 0)))))
        self.check((FIRST, (DOWN, ((10,), (11,)))), ("reading", 1, ("word", ("sight", 0, ("digit", 0)))))

    def test_a_log_that_no_run_reads_is_one(self):
        self.check(((FULL, ((5, 3),)), (FULL, ((4, 3),))), None)


class SmallTest(unittest.TestCase):

    def test_joined_log(self):
        for counter, row in SMALL[::5]:
            for word in all_words(counter, row):
                for log in cut_logs(row, word):
                    self.assertEqual(outcome(joined_log, counter, log), returned((row, word)))

    def test_beside_all_runs(self):
        seen = 0
        for counter, log, runs in small_logs():
            if runs != []:
                seen += 1
                due = tuple([
                    (min(run[begin] for run in runs), max(run[begin] for run in runs), min(run[end] for run in runs),
                     max(run[end] for run in runs)) for begin, end in spans(log)])
                self.assertEqual(outcome(log_windows, counter, log), returned(due), (counter, log))
                ends = [run[-1] for run in runs]
                self.assertEqual(outcome(now_of, counter, log), returned((min(ends), max(ends))), (counter, log))
        self.assertGreater(seen, 1000)

    def test_sures_beside_all_runs(self):
        for counter, log, runs in small_logs():
            if runs != []:
                due = []
                for begin, end in spans(log):
                    values = range(max(run[-1] for run in runs) + 1)
                    sure = [v for v in values if all(run[begin] <= v <= run[end] for run in runs)]
                    due.append((sure[0], sure[-1]) if sure else None)
                self.assertEqual(outcome(log_sures, counter, log), returned(tuple(due)), (counter, log))

    def test_most_gone_beside_all_runs(self):
        seen = 0
        for counter, log, runs in small_logs():
            if runs != []:
                places = spans(log)
                for first, second in itertools.combinations(range(len(log)), 2):
                    seen += 1
                    due = max(run[places[second][0]] - run[places[first][1]] for run in runs)
                    self.assertGreaterEqual(due, 0)
                    self.assertEqual(outcome(most_gone, counter, log, first, second), returned(due), (counter, log))
                    most = now_of(counter, log)[1] - log_windows(counter, log)[first][2]
                    self.assertLessEqual(due, most)
        self.assertGreater(seen, 1000)

    def test_logs_that_no_run_reads(self):
        met = set()
        for counter, log, runs in small_logs():
            if runs == []:
                place = stuck_at(counter, *joined_log(counter, log))
                met.add(place)
                for function in (log_windows, log_sures, now_of):
                    self.assertEqual(outcome(function, counter, log), raised(NoRun(place)))
                if len(log) > 1:
                    self.assertEqual(outcome(most_gone, counter, log, 0, len(log) - 1), raised(NoRun(place)))
        self.assertEqual(met, {1, 2, 3})

    def test_one_reading(self):
        for counter, log, runs in small_logs():
            if len(log) == 1 and runs != []:
                row, word = log[0]
                self.assertEqual(log_windows(counter, log), (window_of(counter, row, word),))
                self.assertEqual(log_sures(counter, log), (sure_of(counter, row, word),))


class MoreReadingsTest(unittest.TestCase):
    """G4: what a further reading does to those that were there."""

    def longer(self, counter, log):
        """The log with a reading more, at each place, where some run reads it."""
        every = tuple(range(len(counter)))
        rows = (((0,),), (every,), (every[-1:], every[:1]))
        for at, row in itertools.product(range(len(log) + 1), rows):
            for word in all_words(counter, row):
                more = log[:at] + ((row, word),) + log[at:]
                if stuck_at(counter, *joined_log(counter, more)) is None:
                    yield at, more

    def cases(self):
        kept = [item for item in small_logs() if item[2] != [] and len(joined_log(item[0], item[1])[0]) == 3]
        for counter, log, _ in kept[::11]:
            for at, more in self.longer(counter, log):
                yield counter, log, at, more

    def test_windows_get_no_wider_and_sure_stays_sure(self):
        nearer = newly = 0
        for counter, log, at, more in self.cases():
            windows, longer = log_windows(counter, log), log_windows(counter, more)
            for window, narrowed in zip(windows, longer[:at] + longer[at + 1:]):
                self.assertTrue(narrowed[0] >= window[0] and narrowed[2] >= window[2], (counter, log, more))
                self.assertTrue(narrowed[1] <= window[1] and narrowed[3] <= window[3], (counter, log, more))
                nearer += narrowed != window
            sures, longer = log_sures(counter, log), log_sures(counter, more)
            for pair, wider in zip(sures, longer[:at] + longer[at + 1:]):
                newly += pair is None and wider is not None
                if pair is not None:
                    self.assertTrue(wider[0] <= pair[0] and pair[1] <= wider[1], (counter, log, more))
        self.assertGreater(nearer, 100)
        self.assertGreater(newly, 10)

    def test_a_reading_by_itself(self):
        wider = 0
        for counter, log, runs in small_logs():
            if runs != [] and len(log) > 1:
                sures = log_sures(counter, log)
                for (row, word), inner, sure in zip(log, log_windows(counter, log), sures):
                    own = window_of(counter, row, word)
                    self.assertTrue(own[0] <= inner[0] and own[2] <= inner[2], (counter, log))
                    self.assertTrue(own[1] >= inner[1] and own[3] >= inner[3], (counter, log))
                    wider += own != inner
                    alone = sure_of(counter, row, word)
                    self.assertTrue(alone is None or sure[0] <= alone[0] and alone[1] <= sure[1])
        self.assertGreater(wider, 100)

    def test_sure_values_never_go_back(self):
        for counter, log, runs in small_logs():
            if runs != []:
                alone = [sure_of(counter, row, word) for row, word in log]
                for pairs in (log_sures(counter, log), alone):
                    told = [pair for pair in pairs if pair is not None]
                    for earlier, later in itertools.combinations(told, 2):
                        self.assertLessEqual(earlier[1], later[0], (counter, log))


class GreatTest(unittest.TestCase):

    def great_log(self, many, reads):
        """A log of so many readings of so many reads, and a run of its joined row."""
        pick = random.Random(many * 100 + reads)
        number = 3 * 10 ** 60
        log, run = [], []
        for _ in range(many):
            row = tuple([tuple(sorted(pick.sample(range(12), pick.randrange(1, 5)))) for _ in range(reads)])
            own = []
            for _ in row:
                number += pick.choice((0, 1, 999999, 10 ** 30, 10 ** 65 + 7))
                own.append(number)
            log.append((row, word_of(TWELVE, row, tuple(own))))
            run.extend(own)
        return tuple(log), tuple(run)

    def test_long_joined_rows(self):
        for many, reads in ((1, 40), (2, 40), (12, 40), (12, 1), (7, 13), (12, 3)):
            log, run = self.great_log(many, reads)
            with self.subTest(many=many, reads=reads):
                self.assertIsNone(log_error(TWELVE, log))
                row, word = joined_log(TWELVE, log)
                self.assertEqual(len(row), many * reads)
                self.assertEqual(word, word_of(TWELVE, row, run))
                least, greatest = [], []
                for lot, sight in zip(row, word):
                    least.append(plain_ahead(TWELVE, lot, sight, least[-1] if least else 0))
                for lot, sight in reversed(list(zip(row, word))):
                    greatest.append(plain_back(TWELVE, lot, sight, greatest[-1] if greatest else 10 ** 72 - 1))
                greatest.reverse()
                self.check(log, least, greatest)

    def check(self, log, least, greatest):
        places = spans(log)
        due = tuple([(least[begin], greatest[begin], least[end], greatest[end]) for begin, end in places])
        self.assertEqual(log_windows(TWELVE, log), due)
        self.assertEqual(log_sures(TWELVE, log), tuple([
            (greatest[begin], least[end]) if greatest[begin] <= least[end] else None for begin, end in places]))
        self.assertEqual(now_of(TWELVE, log), (least[-1], greatest[-1]))
        for first, second in itertools.combinations(range(len(log)), 2):
            self.assertEqual(most_gone(TWELVE, log, first, second), greatest[places[second][0]] - least[places[first][1]])

    def test_stuck_behind_many_reads(self):
        log, run = self.great_log(11, 40)
        every = tuple(range(12))
        back = tuple([(run[0] - 1) // 10 ** (6 * place) % 10 ** 6 for place in every])
        now = tuple([run[0] // 10 ** (6 * place) % 10 ** 6 for place in every])
        sharp = (((every,), (now,)),) + log[1:] + (((every, every), (now, back)),)
        self.assertIsNone(log_error(TWELVE, sharp))
        for function in (log_windows, log_sures, now_of):
            self.assertEqual(outcome(function, TWELVE, sharp), raised(NoRun(stuck_at(TWELVE, *joined_log(TWELVE, sharp)))))
        self.assertEqual(outcome(most_gone, TWELVE, sharp, 0, 1),
                         raised(NoRun(stuck_at(TWELVE, *joined_log(TWELVE, sharp)))))
        alike = (((every,), (now,)),) * 11 + (((every, every), (now, back)),)
        for function in (log_windows, log_sures, now_of):
            self.assertEqual(outcome(function, TWELVE, alike), raised(NoRun(12)))

    def test_calls(self):
        logs = [
            (TWO, (FIRST, SECOND)), (TWO, ((MIRROR, ((3,), (5,), (3,))), (FULL, ((7, 3),)))),
            (TWO, ((FULL, ((5, 3),)), (FULL, ((4, 3),)))), (TWELVE, self.great_log(12, 5)[0]),
        ]
        for function in (joined_log, log_windows, log_sures, now_of):
            check_calls(self, function, ("counter", "log"), logs)
        check_calls(self, most_gone, ("counter", "log", "first", "second"), [call + (0, 1) for call in logs])
        values = [(FIRST, SECOND), [FIRST], {"a": [1]}, None, (FIRST, (DOWN, ((True,), [5]))), (FIRST, (DOWN, [{}]))]
        check_calls(self, log_error, ("counter", "value"), [(TWO, value) for value in values])


if __name__ == "__main__":
    unittest.main()
