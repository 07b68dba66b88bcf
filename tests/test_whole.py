"""A2 and A3 over the whole program: what its parts tell beside one another, and what may be handed in."""

import copy
import itertools
import unittest

from tests.helper import ODD_VALUES, outcome, returned, rows_up_to, runs_by_word
from tornreads.always import always_sure
from tornreads.benches import Bench, bench_behind
from tornreads.carrying import carried_table, counter_table
from tornreads.clocks import clock_error, cut_bound, sizes_error, torn_word
from tornreads.counters import counter_error, lot_error, sight_error
from tornreads.countertexts import read_counter, read_value
from tornreads.faces import face_error, read_face, read_look, read_row
from tornreads.ladders import ladder_error, ladder_of
from tornreads.lostwords import lost_in
from tornreads.mending import put_in, puts_error, puts_for
from tornreads.nesting import nested_clock
from tornreads.readers import filled_reader, paths_of, reader_error, wrong_path
from tornreads.readings import joined_log, log_error, log_sures
from tornreads.rows import row_error, run_error, word_error
from tornreads.runs import least_run, word_of
from tornreads.shells import Shell
from tornreads.sureness import sure_of, two_apart
from tornreads.tableruns import states_error, table_sure
from tornreads.tables import looks_error, table_error

TWO, DOWN = (10, 10), ((1,), (0,))
WORD = ((3,), (5,))
RING = (((0, 0), (1, 0), (1, 1), (0, 1), (0, 0)), (0, 1, 2, 3, 4))
FACE = (("low", "high"), TWO)
CHAIN = ("look", (1,), (((0,), ("look", (0,), (((0,), ("tell", 0)), ((1,), ("again",))))), ((1,), ("tell", 2))))
SMALL = ((2, 2), (3, 2), (2, 3), (5,))

# Each def that takes any value, as a call of that value alone.
TAKING = {
    "counter_error": counter_error, "lot_error": lambda v: lot_error(TWO, v),
    "sight_error": lambda v: sight_error(TWO, (0, 1), v), "read_counter": read_counter,
    "read_value": lambda v: read_value(TWO, v), "row_error": lambda v: row_error(TWO, v),
    "word_error": lambda v: word_error(TWO, DOWN, v), "run_error": lambda v: run_error(TWO, DOWN, v),
    "ladder_error": lambda v: ladder_error(TWO, DOWN, "down", v), "puts_error": lambda v: puts_error(TWO, DOWN, v),
    "log_error": lambda v: log_error(TWO, v), "table_error": table_error,
    "looks_error": lambda v: looks_error(RING, v), "states_error": lambda v: states_error(RING, 1, DOWN, v),
    "sizes_error": sizes_error, "clock_error": lambda v: clock_error((2, 2), v),
    "reader_error": lambda v: reader_error(RING, v), "Bench": lambda v: Bench(v).counter,
    "look": lambda v: Bench(TWO).look(v, (3,)), "sight": lambda v: Bench(TWO).look((0,), v),
    "bench_behind": lambda v: bench_behind(TWO, v).edits, "told": lambda v: Bench(TWO).told(v),
    "beyond": lambda v: Bench(TWO).beyond(v), "short": lambda v: Bench(TWO).short(v), "face_error": face_error,
    "read_face": read_face, "read_row": lambda v: read_row(FACE, v), "read_look": lambda v: read_look(FACE, v),
    "say": lambda v: Shell().say(v),
}


def returned_things():
    """What the package returned, of each kind, some of it greater than what it takes."""
    bench = bench_behind(TWO, (("look", (1,), (3,)), ("look", (0,), (9,)), ("done",), ("look", (1,), (4,))))
    log = ((DOWN * 20, WORD[:1] * 40),) * 12
    return [
        bench, bench.edits, bench.log, bench.opened, bench.windows(), bench.sures(), joined_log(TWO, log),
        joined_log(TWO, log)[0], joined_log(TWO, log)[1], counter_table((200,)), carried_table((2,) * 6, "least", True),
        nested_clock((10,) * 4), nested_clock((2, 3, 2)), lost_in(RING, 0, ((0, 1),)), torn_word((2,), ((0,), (0,))),
        CHAIN, filled_reader(RING, None, CHAIN), paths_of(CHAIN), wrong_path(RING, None, CHAIN), "high:10 low:10",
        read_face("high:10 low:10"), read_row(FACE, "high low"), read_look(FACE, "high=3"), puts_for(TWO, DOWN, "mirror"),
        put_in(TWO, DOWN, ((0, 1),)), ladder_of(TWO, DOWN, "down"), least_run(TWO, DOWN, WORD),
        word_of(TWO, DOWN, (30, 35)), Shell(), Shell().say("now"),
    ]


def with_parts_changed(value, part):
    """The value, and those with one of its items, or of their items, exchanged for part."""
    if not isinstance(value, tuple):
        return [value]
    found = [value, list(value)]
    for at in list(range(len(value)))[:3]:
        found.append(value[:at] + (part,) + value[at + 1:])
        if isinstance(value[at], tuple):
            for k in list(range(len(value[at])))[:3]:
                found.append(value[:at] + (value[at][:k] + (part,) + value[at][k + 1:],) + value[at + 1:])
    return found


class AnyValueTest(unittest.TestCase):
    """Any value may be handed in: an answer or an error of the package, always the same, and nothing is changed."""

    def check(self, value):
        before = repr(value)
        for name, function in TAKING.items():
            with self.subTest(name=name, value=before[:200]):
                came = outcome(function, value)
                self.assertEqual(outcome(function, value), came)
                if "object at" not in before:
                    self.assertEqual(outcome(function, copy.deepcopy(value)), came)
        self.assertEqual(repr(value), before)

    def test_odd_values(self):
        deep = ()
        for _ in range(58):
            deep = (deep,)
        wide = tuple([(k, str(k)) for k in range(1300)])
        for value in ODD_VALUES + (deep, wide, list(wide), dict(wide), "a" * 20000, "1" * 20000, " " * 20000, ":" * 20000,
                                   "face " + "a:2 " * 4000, "look low=" + "9" * 10000, ((),) * 3999, (True, False) * 1000):
            self.check(value)

    def test_what_was_returned(self):
        for value in returned_things():
            self.check(value)

    def test_what_was_returned_with_parts_changed(self):
        for value in returned_things():
            for part in (None, True, False, [0], {}, "look", 10 ** 399, -1, (), Bench(TWO), ("again",)):
                for changed in with_parts_changed(value, part):
                    self.check(changed)

    def test_what_is_right_is_so_with_equal_parts_alone(self):
        right = {
            "counter_error": (2, 3), "lot_error": (0, 1), "sight_error": (1, 0), "row_error": ((1,), (0, 1)),
            "word_error": ((1,), (0,)), "run_error": (1, 1), "ladder_error": (0, 1), "puts_error": ((1, 1), (1, 0)),
            "log_error": ((((1,), (0,)), ((1,), (0,))),), "table_error": (((1,), (0,)), (0, 1)),
            "looks_error": ((1,), (0, 1)), "states_error": (1, 1), "sizes_error": (2, 2), "clock_error": ((1, 0), (0, 1)),
            "reader_error": ("look", (1,), (((0,), ("tell", 1)), ((1,), ("tell", 0)))), "face_error": (("a", "b"), (2, 2)),
        }
        for name, value in right.items():
            came = outcome(TAKING[name], value)
            self.assertEqual(came, returned(None), name)
            for odd in self.ones_exchanged(value):
                self.assertNotEqual(outcome(TAKING[name], odd), came, (name, odd))

    def ones_exchanged(self, value):
        """All values that come of value by one 1 made True, one 0 made False, or one tuple made a list."""
        if value == 1 and type(value) is int:
            return [True]
        if value == 0 and type(value) is int:
            return [False]
        if not isinstance(value, tuple):
            return []
        found = [list(value)]
        for at, item in enumerate(value):
            found.extend([value[:at] + (odd,) + value[at + 1:] for odd in self.ones_exchanged(item)])
        return found


class OneWorldTest(unittest.TestCase):
    """What is read of a counter is told alike by rows, logs, tables, readers, benches and shells."""

    def words(self):
        for counter in SMALL:
            for row in rows_up_to(counter, 3)[::2]:
                for word, runs in runs_by_word(counter, row).items():
                    yield counter, row, word, runs

    def test_sure_values(self):
        for counter, row, word, runs in self.words():
            begin, end = max(run[0] for run in runs), min(run[-1] for run in runs)
            sure = (begin, end) if begin <= end else None
            self.assertEqual(sure_of(counter, row, word), sure)
            self.assertEqual(two_apart(counter, row, word) is None, sure is not None)
            self.assertEqual(log_sures(counter, ((row, word),)), (sure,))
            table = counter_table(counter)
            self.assertEqual(table_sure(table, None, row, word), sure)
            bench = bench_behind(counter, tuple([("look", lot, sight) for lot, sight in zip(row, word)]) + (("done",),))
            self.assertEqual(bench.sures(), (sure,))
            node = ("again",)
            for lot, sight in reversed(list(zip(row, word))):
                node = ("look", lot, ((sight, node),))
            self.assertIsNone(reader_error(table, node))
            leaf = ("again",) if sure is None else ("tell", begin)
            self.assertEqual(paths_of(filled_reader(table, None, node)), ((row, word, leaf),))

    def test_shells_tell_what_benches_tell(self):
        for counter, row, word, runs in itertools.islice(self.words(), 0, None, 5):
            names = ("a", "b")[:len(counter)]
            shell = Shell()
            shell.say("face " + " ".join([f"{name}:{base}" for name, base in reversed(list(zip(names, counter)))]))
            for lot, sight in zip(row, word):
                shell.say("look " + " ".join([f"{names[p]}={d}" for p, d in reversed(list(zip(lot, sight)))]))
            shell.say("done")
            begin, end = max(run[0] for run in runs), min(run[-1] for run in runs)
            texts = [":".join(map(str, reversed(digits))) for digits in counter_table(counter)[0]]
            self.assertEqual(shell.say("sure 0"), f"{texts[begin]} {texts[end]}" if begin <= end else "none")

    def test_what_is_told_is_beyond_or_short_by_as_much_as_the_row_tells(self):
        for counter in SMALL[:3]:
            for row in rows_up_to(counter, 3):
                beyond, short = [0], [0]
                bench = None
                for word, runs in runs_by_word(counter, row).items():
                    bench = bench_behind(counter, tuple([("look", *look) for look in zip(row, word)]) + (("done",),))
                    came = outcome(bench.told, 0)
                    if came[0] == "returns":
                        beyond.extend([int(came[1]) - run[-1] for run in runs])
                        short.extend([run[0] - int(came[1]) for run in runs])
                if {place for lot in row for place in lot} == set(range(len(counter))):
                    self.assertEqual((bench.beyond(0), bench.short(0)), (max(beyond), max(short)))

    def test_something_is_sure_exactly_if_there_is_a_mirror(self):
        for counter in ((2, 3), (5,), (3, 4)):
            for row in rows_up_to(counter, 3):
                always = ladder_of(counter, row, "mirror") is not None
                self.assertEqual(always_sure(counter, row), always)
                self.assertEqual(lost_in(counter_table(counter), None, row) is None, always)

    def test_clocks_are_tables(self):
        for sizes in ((2, 2), (3, 2, 3), (2, 3, 3, 2)):
            clock = nested_clock(sizes)
            self.assertEqual(len(clock), cut_bound(sizes))
            looks = tuple([(cell,) for cell in range(len(sizes))])
            table = (clock, tuple(range(len(clock))))
            self.assertIsNone(table_error(table))
            self.assertIsNone(lost_in(table, None, looks))
            self.assertEqual(lost_in(table, None, looks[::-1]) is None, torn_word(
                sizes[::-1], tuple([word[::-1] for word in clock])) is None)


if __name__ == "__main__":
    unittest.main()
