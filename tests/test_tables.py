"""H2, H3, H4 and H7: tables, looks, runs through states, and what is sure of values."""

import itertools
import random
import unittest

from tests.helper import (
    ODD_VALUES, RING, SPEEDS, STILL, TABLES, all_looks, check_calls, outcome, plain_digits, plain_size, plain_states,
    plain_word, raised, read_words, returned, runs_by_word,
)
from tornreads.counters import lot_error
from tornreads.errors import NoRun
from tornreads.runs import greatest_run, least_run, stuck_at
from tornreads.sureness import sure_of
from tornreads.tableruns import greatest_states, least_states, states_error, table_apart, table_sure, table_word
from tornreads.tables import looks_error, table_error

ACROSS = ((0,), (1,))
ODD_ITEMS = (-1, True, False, None, "0", (0,), [0], {}, 10 ** 399, -10 ** 399)


def unread_words(table, looks):
    """Words of looks with signs that states show, and one that none shows."""
    signs = [sorted({tuple([word[cell] for cell in lot]) for word in table[0]}) + [(77,) * len(lot)] for lot in looks]
    return list(itertools.product(*signs))


def cases(many):
    """Each small table, speed, looks, with all runs of each word."""
    for table in TABLES:
        for looks in all_looks(table, many):
            for speed in SPEEDS:
                yield table, speed, looks, read_words(table, speed, looks)


class TableErrorTest(unittest.TestCase):

    def check(self, value, due):
        self.assertEqual(outcome(table_error, value), returned(due), str(value)[:200])

    def test_right_tables(self):
        for table in TABLES:
            self.check(table, None)

    def test_form(self):
        for value in ODD_VALUES:
            self.check(value, "form")
        words, values = RING
        for value in (list(RING), (words,), (words, values, values), (words, list(values)), (list(words), values),
                      (words, values[:-1]), (words, values + (9,)), (words, None), (None, values), ((), ()),
                      (((0,),), ()), ((), (1,)), "ab", {0: words, 1: values}):
            self.check(value, "form")

    def test_many_states(self):
        for many in (1, 2, 199, 200):
            self.check((((0,),) * many, tuple(range(many))), None)
        for many in (201, 202, 1000):
            self.check((((0,),) * many, tuple(range(many))), "form")

    def test_cells(self):
        for many in range(1, 9):
            self.check((((0,) * many,) * 2, (0, 1)), None)
            self.check((((0,) * many, (0,) * (many + 1)), (0, 1)), ("word", 1))
            self.check((((0,) * many, (0,) * (many - 1)), (0, 1)), ("word", 1))
        self.check((((0,) * 9,) * 2, (0, 1)), ("word", 0))
        self.check((((), ()), (0, 1)), ("word", 0))
        self.check((((0,), (0, 0), ()), (0, 1, 2)), ("word", 1))
        self.check(((0, 0), (0, 0)), ("word", 0))
        self.check((((0, 1), [0, 1]), (0, 1)), ("word", 1))
        self.check((([0, 1], (0, 1)), (0, 1)), ("word", 0))
        self.check((("ab", (0, 1)), (0, 1)), ("word", 0))

    def test_signs(self):
        self.check((((0, 199), (199, 0)), (0, 1)), None)
        for sign in ODD_ITEMS + (200,):
            self.check((((sign, 0), (0, 0)), (0, 1)), ("word", 0))
            self.check((((0, 0), (0, sign)), (0, 1)), ("word", 1))
            self.check((((0, 0),) * 199 + ((0, sign),), tuple(range(200))), ("word", 199))

    def test_values(self):
        great = 10 ** 12
        self.check((((0,),) * 4, (-great, -great, great, great)), None)
        for number in tuple([item for item in ODD_ITEMS if item != -1 or item is True]) + (great + 1,):
            self.check((((0,),) * 3, (0, number, 5)), ("value", 1))
            self.check((((0,),) * 3, (number, 5, 5)), ("value", 0))
            self.check((((0,),) * 3, (0, 1, number)), ("value", 2))
        self.check((((0,),), (-great - 1,)), ("value", 0))
        self.check((((0,),), (great + 1,)), ("value", 0))
        self.check((((0,),) * 2, (5, 4)), ("value", 1))
        self.check((((0,),) * 3, (5, 5, 4)), ("value", 2))
        self.check((((0,),) * 3, (-1, -2, -3)), ("value", 1))
        self.check((((0,),) * 3, (-3, -1, -2)), ("value", 2))

    def test_two_faults(self):
        self.check((((200,), (0,)), (1,)), "form")
        self.check((((200,),) * 201, (1,) * 201), "form")
        self.check((((200,), (0, 0)), (2, 1)), ("word", 0))
        self.check((((0,), (0, 0)), (2, 1)), ("word", 1))
        self.check((((0,), (1,), (0, 200)), (2, 1, True)), ("word", 2))
        self.check((((0,), (1,), (0,)), (2, 1, True)), ("value", 1))


class LooksErrorTest(unittest.TestCase):

    def check(self, value, due, table=RING):
        self.assertEqual(outcome(looks_error, table, value), returned(due), value)

    def test_form(self):
        for value in ODD_VALUES:
            if not isinstance(value, tuple) or value == ():
                self.check(value, "form")
        for many in (1, 2, 39, 40):
            self.check(((0,),) * many, None)
        for many in (41, 42, 400):
            self.check(((0,),) * many, "form")
        self.check([(0,)], "form")
        self.check(([],) * 41, "form")

    def test_lot(self):
        for item in ODD_ITEMS + ((), [], [0], (1, 0), (0, 0), (2,), (0, 2), (0, True), (-1,), (0, 1, 2), ((0,),)):
            if item != (0,):
                self.check((item,), ("lot", 0))
                self.check(((0,), (0, 1), item, None), ("lot", 2))
        self.check(((0,), (1,), (0, 1)), None)
        self.check(((1,),), ("lot", 0), STILL)

    def test_eight_cells(self):
        table = (((0,) * 8,), (0,))
        for many in range(1, 9):
            for lot in itertools.combinations(range(8), many):
                self.check((lot,), None, table)
        self.check(((8,),), ("lot", 0), table)
        self.check(((0, 8),), ("lot", 0), table)


class StatesErrorTest(unittest.TestCase):

    def check(self, speed, value, due, looks=ACROSS):
        self.assertEqual(outcome(states_error, RING, speed, looks, value), returned(due), (speed, value))

    def test_form(self):
        for value in ODD_VALUES:
            if not isinstance(value, tuple) or len(value) != 2:
                self.check(None, value, "form")
        for wrong in (0, 1, 3, 4):
            self.check(None, (0,) * wrong, "form")
        self.check(None, [1, 2], "form")

    def test_state(self):
        for item in ODD_ITEMS + (5, 6):
            self.check(None, (item, 1), ("state", 0))
            self.check(0, (0, item), ("state", 1))
        self.check(None, (0, 4), None)
        self.check(None, (4, 4), None)

    def test_less(self):
        for speed in (None, 0, 200):
            self.check(speed, (2, 1), ("less", 1))
            self.check(speed, (2, 2, 1), ("less", 2), ACROSS + ((0,),))

    def test_speed(self):
        for speed in SPEEDS:
            for first, second in itertools.combinations_with_replacement(range(5), 2):
                due = ("speed", 1) if speed is not None and second - first > speed else None
                self.check(speed, (first, second), due)

    def test_two_faults(self):
        three = ACROSS + ((0,),)
        self.check(1, (0, 3, 2), ("less", 2), three)
        self.check(1, (0, 3, 9), ("state", 2), three)
        self.check(1, (3, 2, 9), ("state", 2), three)
        self.check(1, (3, 2, True), ("state", 2), three)
        self.check(0, (2, 4, 4), ("speed", 1), three)
        self.check(1, (2, 3, 5), ("state", 2), three)
        self.check(1, (0, 2, 4), ("speed", 1), three)
        self.check(1, (9, 9), "form", three)

    def test_beside_all_runs(self):
        for speed in SPEEDS:
            for looks in (((0,),), ACROSS, ACROSS + ((0, 1),)):
                runs = plain_states(RING, speed, len(looks))
                for value in itertools.product(range(-1, 6), repeat=len(looks)):
                    right = outcome(states_error, RING, speed, looks, value) == returned(None)
                    self.assertEqual(right, value in runs, (speed, value))


class SmallTest(unittest.TestCase):

    def test_table_word(self):
        for table in TABLES:
            for looks in all_looks(table, 3):
                for states in itertools.product(range(len(table[0])), repeat=len(looks)):
                    due = plain_word(table, looks, states)
                    self.assertEqual(outcome(table_word, table, looks, states), returned(due))

    def test_least_and_greatest_states(self):
        for table, speed, looks, words in cases(3):
            for word in unread_words(table, looks):
                runs = words.get(word, [])
                least = tuple([min(states) for states in zip(*runs)]) if runs else None
                greatest = tuple([max(states) for states in zip(*runs)]) if runs else None
                call = (table, speed, looks, word)
                self.assertEqual(outcome(least_states, *call), returned(least), call)
                self.assertEqual(outcome(greatest_states, *call), returned(greatest), call)
                self.assertTrue(runs == [] or least in runs and greatest in runs)

    def test_four_looks(self):
        for table in TABLES:
            for looks in all_looks(table, 4)[::7]:
                for speed in (0, 1, 2):
                    for word, runs in read_words(table, speed, looks).items():
                        self.assertEqual(least_states(table, speed, looks, word), min(runs))
                        self.assertEqual(greatest_states(table, speed, looks, word), max(runs))

    def test_table_sure(self):
        for table, speed, looks, words in cases(3):
            for word, runs in words.items():
                begin, end = max(table[1][run[0]] for run in runs), min(table[1][run[-1]] for run in runs)
                due = (begin, end) if begin <= end else None
                self.assertEqual(outcome(table_sure, table, speed, looks, word), returned(due), (table, speed, looks, word))
                for v in {begin, end, begin - 1, end + 1, 0, 1, 2, 10, 12}:
                    sure = all(table[1][run[0]] <= v <= table[1][run[-1]] for run in runs)
                    self.assertEqual(due is not None and due[0] <= v <= due[1], sure)

    def test_table_apart(self):
        for table, speed, looks, words in cases(3):
            for word, runs in words.items():
                values = table[1]
                apart = any(values[one[-1]] < values[other[0]] for one in runs for other in runs)
                pair = table_apart(table, speed, looks, word)
                self.assertEqual(pair is not None, apart, (table, speed, looks, word))
                if pair is not None:
                    self.assertIs(type(pair), tuple)
                    one, other = pair
                    self.assertIn(one, runs)
                    self.assertIn(other, runs)
                    self.assertLess(values[one[-1]], values[other[0]])

    def test_no_run(self):
        met = set()
        for table, speed, looks, words in cases(3):
            begun = [read_words(table, speed, looks[:k + 1]) for k in range(len(looks))]
            for word in unread_words(table, looks):
                if word not in words:
                    place = [k for k in range(len(looks)) if word[:k + 1] not in begun[k]][0]
                    met.add(place)
                    for function in (table_sure, table_apart):
                        self.assertEqual(outcome(function, table, speed, looks, word), raised(NoRun(place)))
        self.assertEqual(met, {0, 1, 2})

    def test_lesser_and_greater_of_two_runs(self):
        for table, speed, looks, words in cases(3):
            for word, runs in words.items():
                for one, other in itertools.combinations(runs[:8], 2):
                    for choose in (min, max):
                        run = tuple([choose(pair) for pair in zip(one, other)])
                        self.assertIsNone(states_error(table, speed, looks, run))
                        self.assertEqual(table_word(table, looks, run), word)

    def test_a_greater_speed(self):
        for table in TABLES:
            for looks in all_looks(table, 3):
                for lesser, greater in itertools.pairwise((0, 1, 2, 3, 200, None)):
                    for word in read_words(table, lesser, looks):
                        sure, less = table_sure(table, greater, looks, word), table_sure(table, lesser, looks, word)
                        if sure is not None:
                            self.assertTrue(less is not None and less[0] <= sure[0] and sure[1] <= less[1])

    def test_a_look_more(self):
        newly = 0
        for table in TABLES:
            for looks in all_looks(table, 3):
                for word, at in itertools.product(read_words(table, None, looks), range(len(looks))):
                    shorter = looks[:at] + looks[at + 1:]
                    if shorter:
                        sure = table_sure(table, None, shorter, word[:at] + word[at + 1:])
                        more = table_sure(table, None, looks, word)
                        newly += sure is None and more is not None
                        if sure is not None:
                            self.assertTrue(more is not None and more[0] <= sure[0] and sure[1] <= more[1])
        self.assertGreater(newly, 10)

    def test_a_look_more_need_not_stay_with_a_speed(self):
        table = (((0,), (1,), (0,)), (0, 1, 2))
        self.assertEqual(table_sure(table, 1, ((0,), (0,)), ((0,), (1,))), (0, 1))
        self.assertIsNone(table_sure(table, 1, ((0,), (0,)), ((0,), (0,))))
        self.assertEqual(least_states(table, 1, ((0,), (0,)), ((1,), (0,))), (1, 2))


class CounterTest(unittest.TestCase):
    """The table of a counter tells what C3 and C4 tell of the counter."""

    def test_beside_the_counter(self):
        for counter, many in (((2, 2), 3), ((3, 2), 3), ((2, 2, 2), 2), ((2, 3, 2), 2)):
            words = tuple(plain_digits(counter))
            table = (words, tuple(range(plain_size(counter))))
            self.assertIsNone(table_error(table))
            for looks in all_looks(table, many):
                self.assertTrue(all(lot_error(counter, lot) is None for lot in looks))
                readers = runs_by_word(counter, looks)
                for word in unread_words(table, looks):
                    if any(77 in sight for sight in word):
                        continue
                    call = (table, None, looks, word)
                    self.assertEqual(least_states(*call), least_run(counter, looks, word))
                    self.assertEqual(greatest_states(*call), greatest_run(counter, looks, word))
                    if word in readers:
                        self.assertEqual(table_sure(*call), sure_of(counter, looks, word))
                    else:
                        self.assertEqual(outcome(table_sure, *call), raised(NoRun(stuck_at(counter, looks, word))))


class GreatTest(unittest.TestCase):

    def met(self, table, speed, looks, word):
        """For each look all states that some run has there, by stepping through all pairs of states."""
        shown = [[s for s in range(len(table[0])) if plain_word(table, (lot,), (s,)) == (sight,)]
                 for lot, sight in zip(looks, word)]
        near = range(201 if speed is None else speed + 1)
        came = [set(shown[0])]
        for states in shown[1:]:
            came.append({s for s in states if any(s - step in came[-1] for step in near)})
        left = [came[-1]]
        for states in reversed(came[:-1]):
            left.append({s for s in states if any(s + step in left[-1] for step in near)})
        return came, left[::-1]

    def tables(self):
        pick = random.Random(11)
        for signs, cells in ((2, 1), (2, 8), (5, 3), (200, 2), (1, 1), (3, 4)):
            words = tuple([tuple([pick.randrange(signs) for _ in range(cells)]) for _ in range(200)])
            values = tuple(sorted([pick.randrange(-10 ** 12, 10 ** 12 + 1) for _ in range(150)] + [0] * 50))
            yield pick, (words, values)

    def test_forty_looks_at_two_hundred_states(self):
        told = {True: 0, False: 0}
        for pick, table in self.tables():
            cells = range(len(table[0][0]))
            self.assertIsNone(table_error(table))
            for many, speed in itertools.product((1, 7, 40), (None, 0, 1, 4, 5, 30, 199, 200)):
                looks = tuple([tuple(sorted(pick.sample(cells, pick.randrange(1, min(3, len(cells)) + 1))))
                               for _ in range(many)])
                self.assertIsNone(looks_error(table, looks))
                run = [pick.randrange(100)]
                while len(run) < many:
                    run.append(min(199, run[-1] + pick.randrange(min(6, 1 + (5 if speed is None else speed)))))
                self.assertIsNone(states_error(table, speed, looks, tuple(run)))
                word = plain_word(table, looks, run)
                told[self.judge(table, speed, looks, word)] += 1
                other = plain_word(table, looks, [pick.randrange(200) for _ in range(many)])
                self.judge(table, speed, looks, other)
        self.assertGreater(min(told.values()), 10)

    def judge(self, table, speed, looks, word):
        """All four defs beside stepping; whether something is sure."""
        call = (table, speed, looks, word)
        came, left = self.met(*call)
        if set() in came:
            self.assertEqual([least_states(*call), greatest_states(*call)], [None, None])
            for function in (table_sure, table_apart):
                self.assertEqual(outcome(function, *call), raised(NoRun(came.index(set()))))
            return False
        least, greatest = tuple([min(states) for states in left]), tuple([max(states) for states in left])
        self.assertEqual(least_states(*call), least)
        self.assertEqual(greatest_states(*call), greatest)
        begin, end = table[1][greatest[0]], table[1][least[-1]]
        self.assertEqual(table_sure(*call), (begin, end) if begin <= end else None)
        pair = table_apart(*call)
        self.assertEqual(pair is None, begin <= end)
        if pair is not None:
            for states in pair:
                self.assertIsNone(states_error(table, speed, looks, states))
                self.assertEqual(table_word(table, looks, states), word)
            self.assertLess(table[1][pair[0][-1]], table[1][pair[1][0]])
        return pair is None

    def test_signs_that_no_state_shows(self):
        for pick, table in self.tables():
            lot = (0,)
            absent = (10 ** 6,)
            here = (table[0][199][0],)
            for k in (0, 1, 20, 39):
                looks, word = (lot,) * 40, (here,) * k + (absent,) + (here,) * (39 - k)
                for speed in (None, 0, 200):
                    self.assertIsNone(least_states(table, speed, looks, word))
                    self.assertIsNone(greatest_states(table, speed, looks, word))
                    for function in (table_sure, table_apart):
                        self.assertEqual(outcome(function, table, speed, looks, word), raised(NoRun(k)))

    def test_calls(self):
        calls = [
            (RING, None, ACROSS, ((0,), (1,))), (RING, 1, ACROSS, ((0,), (1,))), (RING, 0, ACROSS, ((1,), (0,))),
            (STILL, None, ((0,), (0,)), ((2,), (1,))), (STILL, 2, ((0,),), ((7,),)),
        ]
        for function in (least_states, greatest_states, table_sure, table_apart):
            check_calls(self, function, ("table", "speed", "looks", "word"), calls)
        check_calls(self, table_word, ("table", "looks", "states"), [(RING, ACROSS, (4, 0)), (STILL, ((0,),), (3,))])
        values = [(1, 2), [1, 2], {"a": [1]}, None, (3, True), (2, 1), (0, 4), ([0], {})]
        check_calls(self, states_error, ("table", "speed", "looks", "value"), [(RING, 1, ACROSS, v) for v in values])
        values = [ACROSS, [(0,)], ([0],), {"a": [1]}, None, ((0,), (0, True)), ((0, [1]),)]
        check_calls(self, looks_error, ("table", "value"), [(RING, value) for value in values])
        values = [RING, STILL, list(RING), {"a": [1]}, None, (((0,), [0]), (1, 2)), (((0,), (0,)), (2, 1)), ("ab", (1, 2))]
        check_calls(self, table_error, ("value",), [(value,) for value in values])


if __name__ == "__main__":
    unittest.main()
