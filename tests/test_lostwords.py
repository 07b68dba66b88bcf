"""H5 and H7: whether each word of some looks leaves a value sure, and a word that is lost if not."""

import itertools
import random
import unittest

from tests.helper import (
    RING, SPEEDS, STILL, TABLES, all_looks, check_calls, outcome, plain_digits, plain_size, plain_word, raised,
    read_words, rows_up_to,
)
from tornreads.always import always_sure
from tornreads.errors import TooMany
from tornreads.lostwords import lost_in
from tornreads.tableruns import states_error, table_apart, table_sure
from tornreads.tables import looks_error, table_error

ACROSS = ((0,), (1,))


def counter_as_table(counter):
    return tuple(plain_digits(counter)), tuple(range(plain_size(counter)))


def random_table(pick, states, cells, signs, still):
    """A table in which each value is that of the state ahead with a chance of still out of ten."""
    words = tuple([tuple([pick.randrange(signs) for _ in range(cells)]) for _ in range(states)])
    values = [pick.randrange(-9, 9)]
    while len(values) < states:
        values.append(values[-1] + (0 if pick.randrange(10) < still else pick.randrange(1, 4)))
    return words, tuple(values)


def random_looks(pick, cells, many):
    return tuple([tuple(sorted(pick.sample(range(cells), pick.randrange(1, cells + 1)))) for _ in range(many)])


def plain_lost(table, speed, looks):
    """Whether some word is lost, by pairs of states: from each begin of a second run, all pairs that can be come to."""
    words, values = table
    states = range(len(values))
    alike = [{(a, b) for a in states for b in states if plain_word(table, (lot,), (a,)) == plain_word(table, (lot,), (b,))}
             for lot in looks]
    steps = len(values) if speed is None else speed
    for begin in states:
        met = {(a, begin) for a in states if (a, begin) in alike[0] and values[a] < values[begin]}
        for pairs in alike[1:]:
            met = {(a, b) for a, b in pairs if values[a] < values[begin]
                   and any(0 <= a - c <= steps and 0 <= b - d <= steps for c, d in met)}
        if met:
            return True
    return False


class LostInTest(unittest.TestCase):

    def judge(self, table, speed, looks, found):
        """Two runs within the speed read the word, and the one is over ahead of the other."""
        self.assertIs(type(found), tuple)
        word, one, other = found
        for run in (one, other):
            self.assertIsNone(states_error(table, speed, looks, run), (table, speed, looks))
            self.assertEqual(repr(plain_word(table, looks, run)), repr(word))
        self.assertLess(table[1][one[-1]], table[1][other[0]])
        self.assertIsNone(table_sure(table, speed, looks, word))

    def check(self, table, speed, looks):
        """lost_in beside all words of all runs; whether some word is lost."""
        values = table[1]
        lost = any(max(values[run[0]] for run in runs) > min(values[run[-1]] for run in runs)
                   for runs in read_words(table, speed, looks).values())
        found = lost_in(table, speed, looks)
        self.assertEqual(found is not None, lost, (table, speed, looks))
        if found is not None:
            self.judge(table, speed, looks, found)
        return lost

    def test_small_tables_beside_all_words(self):
        told = {True: 0, False: 0}
        for table in TABLES:
            for looks in all_looks(table, 4):
                for speed in SPEEDS:
                    told[self.check(table, speed, looks)] += 1
        self.assertGreater(min(told.values()), 500)

    def test_random_tables_beside_all_words(self):
        pick = random.Random(5)
        told = {True: 0, False: 0}
        for _ in range(500):
            cells = pick.randrange(1, 4)
            table = random_table(pick, pick.randrange(1, 9), cells, pick.randrange(2, 5), pick.randrange(10))
            looks = random_looks(pick, cells, pick.randrange(1, 5))
            for speed in (None, 0, 1, 2, 5, 200):
                told[self.check(table, speed, looks)] += 1
        self.assertGreater(min(told.values()), 500)

    def test_five_looks(self):
        pick = random.Random(6)
        for _ in range(60):
            table = random_table(pick, 7, 2, 3, 3)
            looks = random_looks(pick, 2, 5)
            for speed in (None, 1, 2):
                self.check(table, speed, looks)

    def test_a_later_begin_counts_though_it_comes_late(self):
        # Two second runs come to one state; only that which begins later is begun behind the first run's end.
        table = (((1, 0), (0, 1), (1, 0), (0, 1), (0, 1)), (0, 1, 2, 3, 4))
        self.assertTrue(self.check(table, None, ((0,), (1,))))
        self.assertTrue(self.check(table, 1, ((0,), (1,))))

    def test_a_greater_speed_loses_no_less(self):
        for table in TABLES:
            for looks in all_looks(table, 3):
                lost = [lost_in(table, speed, looks) is not None for speed in (0, 1, 2, 3, 200, None)]
                self.assertEqual(lost, sorted(lost))

    def test_is_the_word_that_table_apart_tells(self):
        for table, speed in itertools.product(TABLES, SPEEDS):
            for looks in all_looks(table, 2):
                for word in read_words(table, speed, looks):
                    if table_apart(table, speed, looks, word) is not None:
                        self.assertIsNotNone(lost_in(table, speed, looks))

    def test_counters_beside_always_sure(self):
        for counter, many in (((2, 3, 4), 3), ((4, 6), 5), ((8, 3), 4), ((24,), 3), ((2, 3, 3), 4)):
            table = counter_as_table(counter)
            for row in rows_up_to(counter, many)[::7]:
                found = lost_in(table, None, row)
                self.assertEqual(found is None, always_sure(counter, row), (counter, row))
                if found is not None:
                    self.judge(table, None, row, found)


class GreatTest(unittest.TestCase):

    judge = LostInTest.judge

    def test_forty_looks_at_twenty_four_states(self):
        pick = random.Random(24)
        told = {True: 0, False: 0}
        for cells, signs, still in ((1, 1, 0), (1, 2, 0), (2, 3, 4), (3, 4, 2), (8, 2, 0), (8, 2, 9), (2, 24, 0)):
            table = random_table(pick, 24, cells, signs, still)
            self.assertIsNone(table_error(table))
            for speed in (None, 0, 1, 2, 23, 199, 200):
                for looks in (random_looks(pick, cells, 40), ((0,),) * 40, (tuple(range(cells)),) * 40):
                    self.assertIsNone(looks_error(table, looks))
                    found = lost_in(table, speed, looks)
                    told[found is not None] += 1
                    if found is not None:
                        self.judge(table, speed, looks, found)
        self.assertGreater(min(told.values()), 20)

    def test_forty_looks_that_lose_nothing(self):
        counter = (2, 3, 4)
        mirror = ((2,), (1,), (0,), (1,), (2,))
        for speed in (None, 0, 1, 200):
            for row in (mirror * 8, ((0,),) * 17 + mirror + ((1, 2),) * 18):
                self.assertIsNone(lost_in(counter_as_table(counter), speed, row))
        codes = tuple([(state, 0) for state in range(24)])
        for speed in (None, 0, 1, 200):
            self.assertIsNone(lost_in((codes, tuple(range(24))), speed, ((1,),) * 39 + ((0,),)), speed)

    def test_beside_pairs_of_states(self):
        pick = random.Random(12)
        told = {True: 0, False: 0}
        for number in range(40):
            cells = pick.randrange(1, 4)
            table = random_table(pick, 12 if number % 4 else 24, cells, pick.randrange(4, 12), pick.randrange(6))
            looks = random_looks(pick, cells, 9)
            for speed in (None, 0, 1, 3):
                found = lost_in(table, speed, looks)
                told[found is not None] += 1
                self.assertEqual(found is not None, plain_lost(table, speed, looks), (table, speed, looks))
                if found is not None:
                    self.judge(table, speed, looks, found)
        self.assertGreater(min(told.values()), 20)

    def test_too_many_states(self):
        for many in (25, 26, 60, 199, 200):
            table = (tuple([(state,) for state in range(many)]), tuple(range(many)))
            self.assertIsNone(table_error(table))
            for speed in (None, 0, 200):
                for looks in (((0,),), ((0,),) * 40):
                    self.assertEqual(outcome(lost_in, table, speed, looks), raised(TooMany(24)))
        still = (((0,),) * 25, (5,) * 25)
        self.assertEqual(outcome(lost_in, still, 0, ((0,),)), raised(TooMany(24)))
        for many in (1, 23, 24):
            table = (tuple([(state,) for state in range(many)]), tuple(range(many)))
            self.assertIsNone(lost_in(table, None, ((0,),)))

    def test_calls(self):
        calls = [
            (RING, 0, ((0, 1),)), (RING, None, ACROSS), (STILL, 1, ((0,),)), (STILL, None, ((0,), (0,))),
            (TABLES[2], 1, ACROSS), (TABLES[2], 2, ACROSS), (((((0,),) * 25), (5,) * 25), 0, ((0,),)),
        ]
        check_calls(self, lost_in, ("table", "speed", "looks"), calls)


if __name__ == "__main__":
    unittest.main()
