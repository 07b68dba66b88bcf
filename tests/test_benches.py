"""K2 to K5: benches, their edits, and what they tell."""

import itertools
import random
import unittest

from tests.helper import ODD_VALUES, all_lots, all_sights, check_calls, outcome, raised, returned, runs_by_word
from tornreads.benches import Bench, bench_behind
from tornreads.counters import counter_error, lot_error, sight_error, sight_of
from tornreads.errors import BadCounter, BadLog, NothingToUndo, NoRun, TooManyEdits, TornError, Unfit
from tornreads.excess import worst_beyond, worst_short
from tornreads.readings import log_sures, log_windows, now_of
from tornreads.telling import told_by

TEN, TWELVE = (10, 10), (10 ** 6,) * 12
SMALL = ((2, 2), (2, 3), (3, 2), (5,))
ASKED = ("windows", "sures", "now")


def state(bench):
    """All that is there to be read of a bench."""
    return repr((bench.counter, bench.log, bench.opened, bench.edits, bench.version))


def answers(bench):
    """All that a bench tells, and what it would do again."""
    numbers = range(len(bench.log) + 1)
    told = [outcome(getattr(bench, name)) for name in ASKED]
    told.extend([outcome(getattr(bench, name), k) for name in ("told", "beyond", "short") for k in numbers])
    other = bench.copy()
    again = []
    while outcome(other.redo) != raised(NothingToUndo()):
        again.append(state(other))
    return state(bench), told, again


def do(bench, edit):
    return bench.done() if edit == ("done",) else bench.look(*edit[1:])


def looks_of(bench):
    """The row and the word of all looks."""
    readings = bench.log + (bench.opened,)
    return tuple([lot for row, _ in readings for lot in row]), tuple([sight for _, word in readings for sight in word])


class Model:
    """A bench as plainly as can be: edits that stand, edits that were taken back, and all runs gone through."""

    def __init__(self, counter):
        self.counter, self.edits, self.undone = counter, [], []

    def readings(self):
        closed, opened = [], []
        for edit in self.edits:
            if edit == ("done",):
                closed.append(opened)
                opened = []
            else:
                opened.append(edit[1:])
        pairs = [(tuple([lot for lot, _ in reading]), tuple([sight for _, sight in reading])) for reading in closed]
        return tuple(pairs), (tuple([lot for lot, _ in opened]), tuple([sight for _, sight in opened]))

    def state(self):
        return repr((self.counter,) + self.readings() + (tuple(self.edits), len(self.edits)))

    def runs(self, more=()):
        looks = [edit[1:] for edit in self.edits if edit != ("done",)] + list(more)
        row, word = tuple([lot for lot, _ in looks]), tuple([sight for _, sight in looks])
        return runs_by_word(self.counter, row).get(word, []) if row else [()]

    def edit(self, edit):
        if edit == ("done",):
            if self.readings()[1] == ((), ()):
                return raised(Unfit())
        elif lot_error(self.counter, edit[1]) or sight_error(self.counter, edit[1], edit[2]):
            return raised(Unfit())
        elif not self.runs([edit[1:]]):
            return raised(NoRun(len([kept for kept in self.edits if kept != ("done",)])))
        self.edits.append(edit)
        self.undone = []
        return returned(len(self.edits))

    def move(self, source, target):
        if not source:
            return raised(NothingToUndo())
        target.append(source.pop())
        return returned(len(self.edits))

    def spans(self):
        """For each reading, the open one too if it has a look, its first and its last read among all."""
        closed, opened = self.readings()
        lengths = [len(row) for row, _ in closed + ((opened,) if opened[0] else ())]
        return [(sum(lengths[:k]), sum(lengths[:k + 1]) - 1) for k in range(len(lengths))]

    def told(self):
        runs, closed = self.runs(), len(self.readings()[0])
        windows, sures = [], []
        for begin, end in self.spans()[:closed]:
            begins, ends = [run[begin] for run in runs], [run[end] for run in runs]
            windows.append((min(begins), max(begins), min(ends), max(ends)))
            sures.append((max(begins), min(ends)) if max(begins) <= min(ends) else None)
        now = returned((min(run[-1] for run in runs), max(run[-1] for run in runs))) if runs[0] else raised(Unfit())
        return [returned(tuple(windows)), returned(tuple(sures)), now]


def random_edit(pick, counter):
    """An edit, mostly one that may be done."""
    if pick.randrange(3) == 0:
        return ("done",)
    lot = pick.choice(all_lots(counter))
    sight = pick.choice(all_sights(counter, lot))
    odd = pick.randrange(20)
    if odd == 0:
        return ("look", pick.choice(((), (9,), list(lot), None, (True,))), sight)
    if odd == 1:
        return ("look", lot, pick.choice((sight + (0,), (-1,) * len(lot), list(sight), None, (9,) * len(lot))))
    return ("look", lot, sight)


class NewBenchTest(unittest.TestCase):

    def test_new(self):
        for counter in SMALL + (TEN, TWELVE):
            bench = Bench(counter)
            self.assertEqual(state(bench), repr((counter, (), ((), ()), (), 0)))
            for name in ("counter", "log", "opened", "edits", "version"):
                self.assertIn(name, vars(bench))
            self.assertEqual([outcome(getattr(bench, name)) for name in ASKED],
                             [returned(()), returned(()), raised(Unfit())])

    def test_bad_counters(self):
        for value in ODD_VALUES + ((10, 1), (10, True), (2,) * 13, [10, 10], Bench(TEN), (Bench(TEN),)):
            error = counter_error(value)
            self.assertIsNotNone(error)
            self.assertEqual(outcome(Bench, value), raised(BadCounter(error)))
            self.assertEqual(outcome(Bench, counter=value), raised(BadCounter(error)))
            for edits in ((), None, (1,)):
                self.assertEqual(outcome(bench_behind, value, edits), raised(BadCounter(error)))

    def test_by_name(self):
        self.assertEqual(Bench(counter=TEN), Bench(TEN))
        bench = Bench(TEN)
        self.assertEqual([bench.look(lot=(1,), sight=(3,)), bench.look((0,), sight=(9,)), bench.done()], [1, 2, 3])
        self.assertEqual([bench.told(reading=0), bench.beyond(reading=0), bench.short(reading=0)], [39, 0, 9])
        edits = (("look", (1,), (3,)), ("look", (0,), (9,)), ("done",))
        self.assertEqual(bench_behind(counter=TEN, value=edits), bench)
        self.assertEqual(bench_behind(value=edits, counter=TEN), bench)


class EqualTest(unittest.TestCase):

    def differ(self, one, other):
        for left, right in ((one, other), (other, one)):
            self.assertIs(left == right, False)
            self.assertIs(left != right, True)

    def same(self, one, other):
        for left, right in ((one, other), (other, one)):
            self.assertIs(left == right, True)
            self.assertIs(left != right, False)

    def test_same_looks_on_other_ways(self):
        one, other = Bench(TEN), Bench(TEN)
        self.same(one, other)
        self.same(one, one)
        one.look((1,), (3,))
        self.differ(one, other)
        other.look((0,), (9,))
        self.differ(one, other)
        other.undo()
        other.look((1,), (3,))
        self.same(one, other)
        other.done()
        self.differ(one, other)
        other.undo()
        self.same(one, other)
        one.done()
        one.look((0,), (1,))
        one.undo()
        other.redo()
        self.same(one, other)

    def test_unlike(self):
        looks = ((((1,), (3,)), ((0,), (9,))), (((1,), (3,)), ((0,), (8,))), (((1,), (3,)),), (((0, 1), (9, 3)),), ())
        benches = []
        for counter in (TEN, (10, 11)):
            for edits in looks:
                for closing in (0, 1, 2) if edits else (0,):
                    bench = Bench(counter)
                    for k, (lot, sight) in enumerate(edits):
                        bench.look(lot, sight)
                        if closing == 2 and k < len(edits) - 1:
                            bench.done()
                    if closing:
                        bench.done()
                    benches.append(bench)
        kinds = {}
        for bench in benches:
            kinds.setdefault(repr((bench.counter, bench.log, bench.opened)), []).append(bench)
        self.assertGreater(len(kinds), 20)
        for one, other in itertools.product(benches, repeat=2):
            alike = (one.counter, one.log, one.opened) == (other.counter, other.log, other.opened)
            (self.same if alike else self.differ)(one, other)

    def test_other_things(self):
        bench = Bench(TEN)
        for value in ODD_VALUES + (5, TEN, (), object(), Bench, [bench], (TEN, (), ((), ())), bench.look):
            self.differ(bench, value)


class EditsTest(unittest.TestCase):

    def test_random_edits_beside_plain_ones(self):
        pick = random.Random(1)
        met = set()
        for number in range(150):
            counter = SMALL[number % len(SMALL)]
            bench, model = Bench(counter), Model(counter)
            for _ in range(30):
                chance = pick.randrange(10)
                if chance < 3:
                    came, due = outcome(bench.undo), model.move(model.edits, model.undone)
                    due = returned(len(model.edits)) if due[0] == "returns" else due
                elif chance < 5:
                    came, due = outcome(bench.redo), model.move(model.undone, model.edits)
                    due = returned(len(model.edits)) if due[0] == "returns" else due
                else:
                    edit = random_edit(pick, counter)
                    if edit != ("done",) and len(looks_of(bench)[0]) >= 5:
                        continue
                    came = outcome(do, bench, edit)
                    due = model.edit(edit)
                met.add(due[1] if due[0] == "raises" else "returned")
                self.assertEqual(came, due)
                self.assertEqual(state(bench), model.state())
                self.assertEqual([outcome(getattr(bench, name)) for name in ASKED], model.told())
        self.assertEqual({kind.partition("[")[0] for kind in met}, {"returned", "Unfit", "NoRun", "NothingToUndo"})
        self.assertGreaterEqual(len([kind for kind in met if kind.startswith("NoRun")]), 4)

    def test_each_edit_behind_each_other_one(self):
        looks = (("look", (1,), (3,)), ("look", (0,), (9,)), ("look", (0, 1), (5, 4)))
        moves = looks + (("done",), "undo", "redo")
        for ways in itertools.product(moves, repeat=4):
            bench, stack, undone = Bench(TEN), [], []
            for move in ways:
                before = answers(bench)
                if move == "undo":
                    due = returned(len(stack) - 1) if stack else raised(NothingToUndo())
                    undone = undone + [stack.pop()] if stack else undone
                    came = outcome(bench.undo)
                elif move == "redo":
                    due = returned(len(stack) + 1) if undone else raised(NothingToUndo())
                    stack = stack + [undone.pop()] if undone else stack
                    came = outcome(bench.redo)
                else:
                    came = outcome(do, bench, move)
                    fits = move != ("done",) or stack != [] and stack[-1] != ("done",)
                    due = came if fits and came[0] == "raises" and came[1].startswith("NoRun") else (
                        returned(len(stack) + 1) if fits else raised(Unfit()))
                    stack, undone = (stack + [move], []) if came[0] == "returns" else (stack, undone)
                self.assertEqual(came, due, ways)
                self.assertEqual(bench.edits, tuple(stack), ways)
                self.assertEqual(bench, bench_behind(TEN, tuple(stack)))
                if came[0] == "raises":
                    self.assertEqual(answers(bench), before)

    def test_looks_that_no_run_can_read(self):
        bench = bench_behind(TEN, (("look", (1,), (3,)), ("look", (0,), (9,)), ("done",), ("look", (1,), (4,))))
        before = answers(bench)
        for lot, sight in (((1,), (3,)), ((0, 1), (9, 3)), ((1,), (0,))):
            self.assertEqual(outcome(bench.look, lot, sight), raised(NoRun(3)))
            self.assertEqual(answers(bench), before)
        bench.done()
        self.assertEqual(outcome(bench.look, (1,), (3,)), raised(NoRun(3)))
        full = bench_behind(TEN, (("look", (0, 1), (9, 9)), ("done",)))
        self.assertEqual(outcome(full.look, (0,), (8,)), raised(NoRun(1)))
        self.assertEqual(outcome(full.look, (0,), (9,)), returned(3))

    def test_looks_that_are_none(self):
        bench = bench_behind(TEN, (("look", (1,), (3,)), ("look", (0,), (9,))))
        bench.undo()
        before = answers(bench)
        for lot in ODD_VALUES + ((2,), (1, 0), (0, 0), [1], (True,), Bench(TEN)):
            self.assertIsNotNone(lot_error(TEN, lot))
            self.assertEqual(outcome(bench.look, lot, (3,)), raised(Unfit()))
            self.assertEqual(outcome(bench.look, lot, lot), raised(Unfit()))
        for sight in ODD_VALUES + ((10,), (3, 3), [3], (True,), (-1,), (None,), Bench(TEN)):
            self.assertIsNotNone(sight_error(TEN, (1,), sight))
            self.assertEqual(outcome(bench.look, (1,), sight), raised(Unfit()))
        self.assertEqual(answers(bench), before)
        self.assertEqual(bench.redo(), 2)

    def test_undo_and_redo_in_any_order(self):
        edits = [("look", (1,), (3,)), ("look", (0,), (9,)), ("done",), ("look", (1,), (4,)), ("done",),
                 ("look", (0, 1), (5, 4))]
        stages = [state(bench_behind(TEN, tuple(edits[:k]))) for k in range(7)]
        pick = random.Random(2)
        for _ in range(60):
            bench = bench_behind(TEN, tuple(edits))
            at = 6
            for _ in range(40):
                if pick.randrange(2):
                    self.assertEqual(outcome(bench.undo), returned(at - 1) if at else raised(NothingToUndo()))
                    at = max(at - 1, 0)
                else:
                    self.assertEqual(outcome(bench.redo), returned(at + 1) if at < 6 else raised(NothingToUndo()))
                    at = min(at + 1, 6)
                self.assertEqual(state(bench), stages[at])

    def test_an_edit_forgets_what_was_taken_back(self):
        for edit in (("look", (0,), (8,)), ("look", (0,), (9,)), ("done",)):
            bench = bench_behind(TEN, (("look", (1,), (3,)), ("look", (0,), (9,)), ("done",)))
            self.assertEqual([bench.undo(), bench.undo()], [2, 1])
            self.assertEqual(do(bench, edit), 2)
            self.assertEqual(outcome(bench.redo), raised(NothingToUndo()))
            self.assertEqual(bench.edits, (("look", (1,), (3,)), edit))
            self.assertEqual([bench.undo(), bench.redo()], [1, 2])

    def test_what_was_read_never_changes(self):
        bench = bench_behind(TEN, (("look", (1,), (3,)), ("look", (0,), (9,)), ("done",), ("look", (1,), (4,))))
        kept = (bench.log, bench.opened, bench.edits, bench.windows(), bench.sures())
        before = repr(kept)
        for move in (bench.undo, bench.undo, bench.redo, bench.done, bench.undo, bench.undo, bench.undo, bench.undo):
            outcome(move)
        self.assertEqual(repr(kept), before)

    def test_goes_back_through_the_same_benches(self):
        pick = random.Random(3)
        for number in range(40):
            bench = Bench(SMALL[number % len(SMALL)])
            stages = [bench.copy()]
            for _ in range(12):
                if outcome(do, bench, random_edit(pick, bench.counter))[0] == "returns":
                    stages.append(bench.copy())
            other = bench_behind(bench.counter, bench.edits)
            for stage in reversed(stages):
                self.assertEqual(other, stage)
                self.assertEqual(state(other), state(stage))
                outcome(other.undo)


class BoundsTest(unittest.TestCase):

    def test_forty_reads_of_one_reading(self):
        bench = Bench(TEN)
        for k in range(40):
            self.assertEqual(bench.look((0,), (5,)), k + 1)
        before = answers(bench)
        for lot, sight in (((0,), (5,)), ((0, 1), (5, 9)), ((1,), (0,)), ((0,), (10,))):
            self.assertEqual(outcome(bench.look, lot, sight), raised(Unfit()))
        self.assertEqual(answers(bench), before)
        self.assertEqual([bench.done(), bench.look((0,), (5,))], [41, 42])
        self.assertEqual([len(row) for row, _ in bench.log], [40])

    def test_twelve_readings(self):
        bench = Bench(TEN)
        for k in range(12):
            self.assertEqual([bench.look((0, 1), (5, 5)), bench.done()], [2 * k + 1, 2 * k + 2])
        before = answers(bench)
        # A look that no run reads is not looked at there any more: it is Unfit.
        for lot, sight in (((0, 1), (5, 5)), ((0,), (5,)), ((1,), (0,)), ((0,), (10,))):
            self.assertEqual(outcome(bench.look, lot, sight), raised(Unfit()))
        self.assertEqual(outcome(bench.done), raised(Unfit()))
        self.assertEqual(answers(bench), before)
        self.assertEqual([len(bench.windows()), len(bench.sures()), bench.now()], [12, 12, (55, 55)])
        self.assertEqual([bench.undo(), bench.look((0,), (5,)), bench.done()], [23, 24, 25])
        self.assertEqual(outcome(bench.look, (0,), (5,)), raised(Unfit()))

    def sixty(self, last):
        """A bench with sixty edits, the last one a look or done."""
        bench = Bench(TEN)
        for _ in range(30 if last == "look" else 29):
            bench.look((1,), (5,))
        bench.done()
        for _ in range(29):
            bench.look((1,), (6,))
        if last == "done":
            bench.done()
        return bench

    def test_sixty_edits(self):
        bench = self.sixty("look")
        self.assertEqual(bench.version, 60)
        self.assertEqual(len(bench.edits), 60)
        before = answers(bench)
        self.assertEqual(outcome(bench.look, (1,), (6,)), raised(TooManyEdits()))
        self.assertEqual(outcome(bench.done), raised(TooManyEdits()))
        self.assertEqual(outcome(bench.look, (1,), (5,)), raised(NoRun(59)))
        self.assertEqual(outcome(bench.look, (1,), (10,)), raised(Unfit()))
        self.assertEqual(outcome(bench.redo), raised(NothingToUndo()))
        self.assertEqual(answers(bench), before)
        self.assertEqual([bench.undo(), bench.done()], [59, 60])
        self.assertEqual(outcome(bench.done), raised(Unfit()))
        self.assertEqual(outcome(bench.look, (1,), (6,)), raised(TooManyEdits()))

    def test_sixty_edits_with_a_closed_reading(self):
        bench = self.sixty("done")
        self.assertEqual(bench.version, 60)
        self.assertEqual(outcome(bench.done), raised(Unfit()))
        self.assertEqual(outcome(bench.look, (1,), (6,)), raised(TooManyEdits()))
        self.assertEqual(outcome(bench.look, (1,), (5,)), raised(NoRun(58)))
        for version in range(59, -1, -1):
            self.assertEqual(bench.undo(), version)
        self.assertEqual(outcome(bench.undo), raised(NothingToUndo()))
        for version in range(1, 61):
            self.assertEqual(bench.redo(), version)
        self.assertEqual(outcome(bench.redo), raised(NothingToUndo()))
        self.assertEqual(bench, self.sixty("done"))

    def test_taken_back_edits_do_not_count(self):
        bench = self.sixty("look")
        bench.undo()
        self.assertEqual(bench.look((1,), (7,)), 60)

    def test_great_counters(self):
        pick = random.Random(4)
        bench = Bench(TWELVE)
        number = 10 ** 60
        while bench.version < 60:
            if bench.opened[0] and len(bench.log) < 11 and pick.randrange(6) == 0:
                bench.done()
                continue
            number += pick.choice((0, 1, 10 ** 6, 10 ** 40, 10 ** 66))
            lot = tuple(sorted(pick.sample(range(12), pick.randrange(1, 6))))
            bench.look(lot, sight_of(TWELVE, lot, number))
        log = bench.log + (bench.opened,) if bench.opened[0] else bench.log
        self.assertEqual(bench.windows(), log_windows(TWELVE, log)[:len(bench.log)])
        self.assertEqual(bench.sures(), log_sures(TWELVE, log)[:len(bench.log)])
        self.assertEqual(bench.now(), now_of(TWELVE, log))
        self.assertEqual(bench_behind(TWELVE, bench.edits), bench)
        least, greatest = bench.now()
        self.assertTrue(least <= number <= greatest)


class CopyTest(unittest.TestCase):

    def test_copies_go_on_apart(self):
        bench = bench_behind(TEN, (("look", (1,), (3,)), ("look", (0,), (9,)), ("done",), ("look", (1,), (4,))))
        bench.undo()
        bench.undo()
        other = bench.copy()
        self.assertIsNot(other, bench)
        self.assertIs(type(other), Bench)
        self.assertEqual(answers(other), answers(bench))
        before = answers(bench)
        self.assertEqual([other.redo(), other.redo()], [3, 4])
        other.look((0,), (2,))
        other.done()
        self.assertEqual(answers(bench), before)
        before = answers(other)
        self.assertEqual([bench.undo(), bench.undo()], [1, 0])
        bench.look((0, 1), (0, 0))
        self.assertEqual(answers(other), before)
        self.assertEqual(outcome(bench.redo), raised(NothingToUndo()))
        self.assertEqual([other.undo(), other.undo(), other.undo()], [5, 4, 3])

    def test_copies_of_copies(self):
        bench = Bench(TEN)
        for k in range(4):
            bench = bench.copy()
            self.assertEqual(bench.look((0,), (k,)), k + 1)
        copies = [bench]
        for _ in range(4):
            copies.append(copies[-1].copy())
            copies[-1].undo()
        self.assertEqual([copy.version for copy in copies], [4, 3, 2, 1, 0])
        for copy in copies:
            while copy.version < 4:
                copy.redo()
            self.assertEqual(copy, bench)


class BenchBehindTest(unittest.TestCase):

    RIGHT = (("look", (1,), (3,)), ("look", (0,), (9,)), ("done",), ("look", (1,), (4,)))

    def check(self, value, due):
        self.assertEqual(outcome(bench_behind, TEN, value), raised(BadLog(due)), value)

    def test_right_edits(self):
        for many in range(5):
            bench = bench_behind(TEN, self.RIGHT[:many])
            self.assertIs(type(bench), Bench)
            self.assertEqual(bench.edits, self.RIGHT[:many])
            self.assertEqual(bench.version, many)
            self.assertEqual(outcome(bench.redo), raised(NothingToUndo()))

    def test_no_tuple(self):
        for value in ODD_VALUES + (Bench(TEN), list(self.RIGHT)):
            if not isinstance(value, tuple):
                self.check(value, 0)

    def test_items_that_are_no_edits(self):
        items = ODD_VALUES + (("done", 1), ["done"], "done", ("look",), ("look", (1,)), ("look", (1,), (3,), 0),
                              ["look", (1,), (3,)], ("Look", (1,), (3,)), ("undo",), ("done", "done"), (Bench(TEN),),
                              ("done", (1,), (3,)), Bench(TEN), (Bench(TEN), (1,), (4,)), (("done",),), ("look", 1))
        for item in items:
            for at in range(5):
                self.check(self.RIGHT[:at] + (item,) + self.RIGHT[at:], at)
                self.check(self.RIGHT[:at] + (item, None), at)

    def test_items_by_which_an_error_is_raised(self):
        for item in (("look", (2,), (3,)), ("look", None, None), ("look", (1,), (10,)), ("look", (1,), [4]),
                     ("look", (1,), (True,)), ("look", (1, 0), (3, 9)), ("look", Bench(TEN), ())):
            for at in range(5):
                self.check(self.RIGHT[:at] + (item,) + self.RIGHT[at:], at)
        self.check(self.RIGHT + (("look", (1,), (3,)),), 4)
        self.check(self.RIGHT + (("look", (1,), (5,)), ("look", (1,), (3,)), None), 5)
        self.check((("done",),), 0)
        self.check(self.RIGHT[:3] + (("done",),), 3)
        self.check(self.RIGHT + (("done",), ("done",)), 5)

    def test_bounds(self):
        look, done = ("look", (0,), (5,)), ("done",)
        self.check((look,) * 41, 40)
        self.check((look, done) * 12 + (look,), 24)
        self.check((look, done) * 12 + (done,), 24)
        self.check((look,) * 30 + (done,) + (look,) * 30, 60)
        self.check((look,) * 30 + (done,) + (look,) * 29 + (done,), 60)
        self.assertEqual(bench_behind(TEN, (look,) * 30 + (done,) + (look,) * 29).version, 60)

    def test_calls(self):
        values = [self.RIGHT, list(self.RIGHT), self.RIGHT + (None,), (["done"],), ("look", [0], {}), {"a": [1]}, None]
        for value in values:
            before = repr(value)
            first, again = outcome(bench_behind, TEN, value), outcome(bench_behind, value=value, counter=TEN)
            self.assertEqual(first[0], again[0])
            if first[0] == "raises":
                self.assertEqual(first, again)
            self.assertEqual(repr(value), before)
        check_calls(self, lambda counter, value: state(bench_behind(counter, value)), ("counter", "value"), [
            (TEN, self.RIGHT), (TEN, ()), (TEN, None), ((10, 1), None)])


class TellingTest(unittest.TestCase):

    def bench(self):
        return bench_behind(TEN, (
            ("look", (1,), (3,)), ("look", (0,), (9,)), ("done",), ("look", (0,), (1,)), ("done",),
            ("look", (1,), (4,)), ("look", (0,), (2,)), ("look", (1,), (5,)), ("done",), ("look", (1,), (6,))))

    def test_told_beyond_short(self):
        bench = self.bench()
        for k, (row, word) in enumerate(bench.log):
            self.assertEqual(outcome(bench.told, k), outcome(told_by, TEN, row, word))
            self.assertEqual(outcome(bench.beyond, k), outcome(worst_beyond, TEN, row))
            self.assertEqual(outcome(bench.short, k), outcome(worst_short, TEN, row))
        self.assertEqual([outcome(bench.told, k) for k in range(3)], [returned(39), raised(Unfit()), raised(Unfit())])
        self.assertEqual([outcome(bench.beyond, k) for k in range(3)], [returned(0), raised(Unfit()), returned(0)])
        self.assertEqual([outcome(bench.short, k) for k in range(3)], [returned(9), raised(Unfit()), returned(0)])

    def test_what_is_no_number_of_a_closed_reading(self):
        bench = self.bench()
        before = answers(bench)
        for value in ODD_VALUES + (3, 4, -1, True, False, "0", (0,), Bench(TEN), 10 ** 399):
            if type(value) is int and 0 <= value < 3:
                continue
            for ask in (bench.told, bench.beyond, bench.short):
                self.assertEqual(outcome(ask, value), raised(Unfit()), value)
        for ask in (Bench(TEN).told, Bench(TEN).beyond, Bench(TEN).short):
            for value in (0, 1, -1, None):
                self.assertEqual(outcome(ask, value), raised(Unfit()))
        self.assertEqual(answers(bench), before)

    def test_told_beyond_short_never_change(self):
        bench = self.bench()
        for move in ((1,), (6,)), ((0, 1), (9, 8)), ((0,), (9,)):
            before = [outcome(ask, k) for k in range(len(bench.log)) for ask in (bench.told, bench.beyond, bench.short)]
            bench.look(*move)
            bench.done()
            after = [outcome(ask, k) for k in range(len(bench.log)) for ask in (bench.told, bench.beyond, bench.short)]
            self.assertEqual(after[:len(before)], before)

    def test_with_and_without_an_open_reading(self):
        bench = Bench(TEN)
        bench.look((1,), (3,))
        self.assertEqual([bench.windows(), bench.sures(), bench.now()], [(), (), (30, 39)])
        bench.look((0,), (5,))
        self.assertEqual([bench.windows(), bench.sures(), bench.now()], [(), (), (35, 95)])
        bench.done()
        self.assertEqual([bench.windows(), bench.sures(), bench.now()], [((30, 39, 35, 95),), (None,), (35, 95)])
        bench.look((1,), (3,))
        self.assertEqual([bench.windows(), bench.sures(), bench.now()], [((30, 35, 35, 35),), ((35, 35),), (35, 39)])
        bench.undo()
        self.assertEqual([bench.windows(), bench.sures(), bench.now()], [((30, 39, 35, 95),), (None,), (35, 95)])

    def test_asking_changes_nothing(self):
        bench = self.bench()
        bench.undo()
        before = answers(bench)
        self.assertEqual(answers(bench), before)
        self.assertEqual(bench.redo(), 10)

    def test_more_looks_tell_more_sharply(self):
        pick = random.Random(5)
        sharper = 0
        for number in range(300):
            bench = Bench(SMALL[number // 2 % 4] if number % 2 else TEN)
            for _ in range(14):
                windows, sures, now = bench.windows(), bench.sures(), outcome(bench.now)
                self.assertEqual(now[0], "returns" if looks_of(bench)[0] else "raises")
                try:
                    do(bench, random_edit(pick, bench.counter))
                except TornError:
                    continue
                for old, new in zip(windows, bench.windows()):
                    self.assertTrue(new[0] >= old[0] and new[2] >= old[2] and new[1] <= old[1] and new[3] <= old[3])
                    sharper += new != old
                for old, new in zip(sures, bench.sures()):
                    if old is not None:
                        self.assertTrue(new[0] <= old[0] and old[1] <= new[1])
                told = [pair for pair in bench.sures() if pair is not None]
                for earlier, later in itertools.combinations(told, 2):
                    self.assertLessEqual(max(earlier), min(later))
        self.assertGreater(sharper, 100)


if __name__ == "__main__":
    unittest.main()
