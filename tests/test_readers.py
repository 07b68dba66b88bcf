"""J2, J3, J4 and J6: readers whose looks hang on what they saw, and what they tell."""

import itertools
import random
import unittest

from tests.helper import (
    ODD_VALUES, SPEEDS, STILL, TABLES, check_calls, outcome, plain_states, plain_word, random_reader, returned,
)
from tornreads.benches import Bench
from tornreads.lives import tells_in
from tornreads.readers import filled_reader, paths_of, reader_error, wrong_path
from tornreads.tableruns import states_error
from tornreads.tables import table_error

FOUR = (((0, 0), (1, 0), (0, 1), (1, 1)), (0, 1, 2, 3))
LOW = ("look", (0,), (((0,), ("tell", 0)), ((1,), ("tell", 1))))
HIGH = ("look", (0,), (((0,), ("tell", 2)), ((1,), ("tell", 3))))
PLAIN = ("look", (1,), (((0,), LOW), ((1,), HIGH)))
TWICE = ("look", (1,), (
    ((0,), ("look", (0,), (((0,), ("look", (1,), (((0,), ("tell", 0)), ((1,), ("tell", 2))))), ((1,), ("tell", 1))))),
    ((1,), HIGH)))
NO_LEAVES = ("look", (0, 1), ())
ODD_ITEMS = (True, False, None, "0", (0,), [0], {}, 10 ** 399, -10 ** 399)


def chain(looks, leaf=("again",)):
    """A reader of so many looks in a row."""
    node = leaf
    for _ in range(looks):
        node = ("look", (0,), (((1,), node),))
    return node


def wide(leaves, lot=(0,)):
    """A reader of one look with so many leaves."""
    return ("look", lot, tuple([((sign,), ("tell", sign)) for sign in range(leaves)]))


def plain_nodes(value, way=()):
    """All nodes with their ways, each one ahead of those behind its branches."""
    yield value, way
    if type(value) is tuple and len(value) == 3 and type(value[0]) is str and value[0] == "look":
        if type(value[2]) is tuple:
            for k, pair in enumerate(value[2]):
                if type(pair) is tuple and len(pair) == 2:
                    yield from plain_nodes(pair[1], way + (k,))


def is_int(value, least, greatest):
    return type(value) is int and least <= value <= greatest


def plain_word_of(table, node, way):
    """The word that applies to a node, None if none does."""
    cells = len(table[0][0])
    kind = node[0] if type(node) is tuple and node and type(node[0]) is str else None
    look = kind == "look" and len(node) == 3 and type(node[2]) is tuple
    look = look and all(type(pair) is tuple and len(pair) == 2 for pair in node[2])
    tell = kind == "tell" and len(node) == 2
    if not look and (way == () or not tell and not (kind == "again" and len(node) == 1)):
        return "form"
    if tell:
        return None if is_int(node[1], -10 ** 12, 10 ** 12) else "tell"
    if not look:
        return None
    if len(way) > 7:
        return "deep"
    lot, sights = node[1], [pair[0] for pair in node[2]]
    if type(lot) is not tuple or lot == () or not all(is_int(cell, 0, cells - 1) for cell in lot):
        return "lot"
    if any(one >= other for one, other in zip(lot, lot[1:])):
        return "lot"
    for sight in sights:
        if type(sight) is not tuple or len(sight) != len(lot) or not all(is_int(sign, 0, 199) for sign in sight):
            return "sight"
    return "order" if any(one >= other for one, other in zip(sights, sights[1:])) else None


def plain_error(table, value):
    """What reader_error has to return."""
    nodes = list(plain_nodes(value))
    if len(nodes) > 60:
        return ("many", ())
    for node, way in nodes:
        word = plain_word_of(table, node, way)
        if word is not None:
            return (word, way)
    return None


def plain_paths(node, looks=(), word=()):
    """The triple of each leaf, in order."""
    if node[0] != "look":
        yield looks, word, node
        return
    for sight, below in node[2]:
        yield from plain_paths(below, looks + (node[1],), word + (sight,))


def plain_runs_of(table, speed, looks, word):
    """All runs that read word."""
    return [run for run in plain_states(table, speed, len(looks)) if plain_word(table, looks, run) == word]


def wrong_in(table, run, value):
    return not table[1][run[0]] <= value <= table[1][run[-1]]


def plain_filled(table, speed, node, looks=(), word=()):
    """What filled_reader has to return, beside all runs."""
    if node[0] == "look":
        behind = [(sight, plain_filled(table, speed, below, looks + (node[1],), word + (sight,)))
                  for sight, below in node[2]]
        return ("look", node[1], tuple(behind))
    runs = plain_runs_of(table, speed, looks, word)
    if not runs:
        return ("again",)
    begin, end = max(table[1][run[0]] for run in runs), min(table[1][run[-1]] for run in runs)
    return ("tell", begin) if begin <= end else ("again",)


def changed(pick, value):
    """The value with one part, at any depth, exchanged for something else, left out, or put in twice."""
    if type(value) is not tuple or value == () or pick.randrange(5) == 0:
        odd = pick.choice(ODD_VALUES + ("look", "tell", "again", ("again",), ("tell", 3), 199, 200, 2, LOW, (0, 1)))
        return pick.choice((odd, odd, list(value) if type(value) is tuple else True))
    at = pick.randrange(len(value))
    how = pick.randrange(12)
    if how == 0:
        return value[:at] + value[at + 1:]
    if how == 1:
        return value[:at + 1] + value[at:]
    if how == 2:
        return value[::-1]
    return value[:at] + (changed(pick, value[at]),) + value[at + 1:]


class ReaderErrorTest(unittest.TestCase):

    def check(self, value, due, table=FOUR):
        self.assertEqual(outcome(reader_error, table, value), returned(due), str(value)[:300])

    def test_right_readers(self):
        for reader in (PLAIN, TWICE, LOW, HIGH, NO_LEAVES, ("look", (0,), ()), chain(8), wide(59)):
            self.check(reader, None)

    def test_values_of_all_kinds(self):
        for value in ODD_VALUES + (Bench((2, 2)), ("look",), ("look", (0,)), ("look", (0,), (), ()), ("again",),
                                   ("tell", 0), ("look", (0,), None), ("look", (0,), []), ("Look", (0,), ()),
                                   ("look", (0,), {}), ["look", (0,), ()], (("look",), (0,), ()), "look"):
            self.check(value, ("form", ()))

    def test_form_below(self):
        odd = ODD_VALUES + (Bench((2, 2)), ("again", 0), ("again", None), ("tell",), ("tell", 0, 0), ["again"],
                            ["tell", 0], ("look", (0,)), ["look", (0,), ()], ("look", (0,), []), "again", "tell")
        for value in odd:
            self.check(("look", (0,), (((1,), value),)), ("form", (0,)))
            self.check(("look", (0,), (((0,), ("tell", 1)), ((1,), LOW), ((2,), value))), ("form", (2,)))
            self.check(("look", (0,), (((0,), HIGH), ((3,), ("look", (1,), (((1,), value),))))), ("form", (1, 0)))

    def test_branches_that_are_no_pairs(self):
        for item in ODD_VALUES:
            if not isinstance(item, tuple) or len(item) != 2:
                self.check(("look", (0,), (item,)), ("form", ()))
                self.check(("look", (0,), (((0,), LOW), item)), ("form", ()))
                self.check(("look", (0,), (((0,), ("look", (0,), (item,))),)), ("form", (0,)))
        self.check(("look", (0,), (((0,), LOW, 0),)), ("form", ()))
        self.check(("look", (0,), ([(0,), LOW],)), ("form", ()))

    def test_lot(self):
        for lot in ODD_VALUES + ((2,), (0, 2), (1, 0), (0, 0), [0], (True,), (0, True), (-1,), (0, 1, 2)):
            self.check(("look", lot, ()), ("lot", ()))
            self.check(("look", (0,), (((7,), ("look", lot, ())),)), ("lot", (0,)))
        self.check(("look", (1,), ()), ("lot", ()), STILL)
        self.check(("look", tuple(range(8)), ()), None, (((0,) * 8,), (0,)))
        self.check(("look", tuple(range(9)), ()), ("lot", ()), (((0,) * 8,), (0,)))

    def test_sight(self):
        leaf = ("again",)
        for sight in ODD_VALUES + ((), (0, 0), [0], (200,), (-1,), (True,), (10 ** 399,), ((0,),), 0):
            self.check(("look", (0,), ((sight, leaf),)), ("sight", ()))
            self.check(("look", (0,), (((0,), leaf), (sight, leaf))), ("sight", ()))
            self.check(("look", (0, 1), (((0, 0), ("look", (1,), ((sight, leaf),))),)), ("sight", (0,)))
        for sight in ((0,), (0, 0, 0), (0, 200), (-1, 0), (0, None), [0, 0]):
            self.check(("look", (0, 1), ((sight, leaf),)), ("sight", ()))
        self.check(("look", (0, 1), (((199, 199), leaf),)), None)

    def test_order(self):
        leaf = ("again",)
        for sights in (((0,), (0,)), ((1,), (0,)), ((0,), (2,), (1,)), ((0,), (1,), (1,)), ((199,), (10,))):
            self.check(("look", (0,), tuple([(sight, leaf) for sight in sights])), ("order", ()))
        for sights in (((0, 1), (0, 0)), ((1, 0), (0, 9)), ((3, 3), (3, 3))):
            self.check(("look", (0, 1), tuple([(sight, leaf) for sight in sights])), ("order", ()))
        self.check(("look", (0, 1), (((0, 9), leaf), ((1, 0), leaf), ((1, 1), leaf))), None)

    def test_tell(self):
        great = 10 ** 12
        for value in (0, 1, -1, great, -great):
            self.check(("look", (0,), (((0,), ("tell", value)),)), None)
        for value in ODD_ITEMS + (great + 1, -great - 1):
            self.check(("look", (0,), (((0,), ("tell", value)),)), ("tell", (0,)))
            self.check(("look", (0,), (((0,), LOW), ((1,), ("tell", value)))), ("tell", (1,)))

    def test_deep(self):
        for looks in range(1, 9):
            self.check(chain(looks), None)
            self.check(chain(looks, ("tell", 5)), None)
        for looks in range(9, 20):
            self.check(chain(looks), ("deep", (0,) * 8))
        self.check(("look", (0,), (((0,), LOW), ((1,), chain(8)))), ("deep", (1,) + (0,) * 7))
        self.check(chain(8, ("look", None, ())), ("deep", (0,) * 8))
        self.check(chain(8, ("look", (0,), (1,))), ("form", (0,) * 8))

    def test_many(self):
        for leaves in (57, 58, 59):
            self.check(wide(leaves), None)
        for leaves in (60, 61, 199, 200):
            self.check(wide(leaves), ("many", ()))
        self.check(wide(60, None), ("many", ()))
        self.check(wide(59, None), ("lot", ()))
        self.check(chain(60), ("many", ()))
        self.check(chain(59), ("deep", (0,) * 8))
        self.check(("look", None, ((0, None),) * 59), ("lot", ()))
        self.check(("look", None, ((0, None),) * 60), ("many", ()))
        self.check(("look", None, ((0, None),) * 59 + (7, None, (1, 2, 3))), ("form", ()))
        self.check(("look", (0,), (((0,), wide(28)), ((1,), wide(29)))), None)
        self.check(("look", (0,), (((0,), wide(29)), ((1,), wide(29)))), ("many", ()))
        self.check(("look", (0,), (((0,), wide(40)), ((1,), ("tell", wide(40))))), ("tell", (1,)))
        self.check(("look", (0,), tuple([((0,), ("again",), 0)] * 1000)), ("form", ()))
        self.check(["look", (0,), ((0, None),) * 100], ("form", ()))

    def test_two_faults_in_one_node(self):
        leaf = ("again",)
        self.check(("look", None, (((0,), leaf), 5)), ("form", ()))
        self.check(("look", (2,), (((0, 0), leaf),)), ("lot", ()))
        self.check(("look", (0,), (((1,), leaf), ((0,), leaf), ((0, 0), leaf))), ("sight", ()))
        self.check(chain(8, ("look", (9,), ((0, leaf),))), ("deep", (0,) * 8))

    def test_two_faults_in_two_nodes(self):
        leaf, bad = ("again",), ("tell", None)
        self.check(("look", (0,), (((1,), bad), ((0,), leaf))), ("order", ()))
        self.check(("look", (0,), (((0,), ("look", (0,), (((0,), bad),))), ((1,), None))), ("tell", (0, 0)))
        self.check(("look", (0,), (((0,), ("look", (7,), (((0,), bad),))), ((1,), None))), ("lot", (0,)))
        self.check(("look", (0,), (((0,), leaf), ((1,), None), ((2,), bad))), ("form", (1,)))
        self.check(("look", (0,), (((0,), leaf), ((1,), bad), ((2,), None))), ("tell", (1,)))

    def test_changed_readers_beside_plain_words(self):
        pick = random.Random(7)
        words = {}
        for number in range(30000):
            reader = pick.choice((PLAIN, TWICE, LOW, chain(8), chain(9), wide(59), random_reader(pick, FOUR, 3)))
            value = changed(pick, reader)
            if number % 3 == 0:
                value = changed(pick, value)
            due = plain_error(FOUR, value)
            words[due and due[0]] = words.get(due and due[0], 0) + 1
            self.check(value, due)
        self.assertEqual(set(words), {None, "many", "form", "lot", "sight", "order", "tell", "deep"})
        self.assertGreater(min(words.values()), 20)


class PathsTest(unittest.TestCase):

    def test_order_of_the_leaves(self):
        self.assertEqual(paths_of(TWICE), (
            (((1,), (0,), (1,)), ((0,), (0,), (0,)), ("tell", 0)), (((1,), (0,), (1,)), ((0,), (0,), (1,)), ("tell", 2)),
            (((1,), (0,)), ((0,), (1,)), ("tell", 1)), (((1,), (0,)), ((1,), (0,)), ("tell", 2)),
            (((1,), (0,)), ((1,), (1,)), ("tell", 3))))

    def test_no_branches(self):
        self.assertEqual(outcome(paths_of, NO_LEAVES), returned(()))
        below = ("look", (1,), (((0,), ("look", (0,), ())), ((1,), ("again",)), ((2,), ("look", (0, 1), ()))))
        self.assertEqual(outcome(paths_of, below), returned(((((1,),), ((1,),), ("again",)),)))

    def test_one_look(self):
        reader = ("look", (0, 1), (((0, 0), ("tell", -5)), ((0, 7), ("again",)), ((1, 0), ("tell", 5))))
        self.assertEqual(outcome(paths_of, reader), returned((
            (((0, 1),), ((0, 0),), ("tell", -5)), (((0, 1),), ((0, 7),), ("again",)),
            (((0, 1),), ((1, 0),), ("tell", 5)))))

    def test_beside_plain_going_through(self):
        pick = random.Random(8)
        for _ in range(300):
            reader = random_reader(pick, FOUR, 4)
            self.assertIsNone(reader_error(FOUR, reader))
            paths = tuple(plain_paths(reader))
            self.assertEqual(outcome(paths_of, reader), returned(paths))
            self.assertEqual(len({(looks, word) for looks, word, _ in paths}), len(paths))

    def test_long_readers(self):
        self.assertEqual(paths_of(chain(8)), ((((0,),) * 8, ((1,),) * 8, ("again",)),))
        self.assertEqual([leaf for _, _, leaf in paths_of(wide(59))], [("tell", sign) for sign in range(59)])


class SmallTest(unittest.TestCase):
    """J4 beside all runs."""

    def cases(self, many):
        pick = random.Random(9)
        for table in TABLES + (FOUR,):
            for _ in range(many):
                reader = random_reader(pick, table, pick.randrange(1, 4))
                self.assertIsNone(reader_error(table, reader))
                for speed in SPEEDS:
                    yield table, speed, reader

    def judge(self, table, speed, reader, found):
        number, run = found
        self.assertIs(type(found), tuple)
        self.assertIs(type(number), int)
        looks, word, leaf = paths_of(reader)[number]
        self.assertEqual(leaf[0], "tell")
        self.assertIsNone(states_error(table, speed, looks, run))
        self.assertEqual(plain_word(table, looks, run), word)
        self.assertTrue(wrong_in(table, run, leaf[1]), (table, speed, reader))

    def test_wrong_path(self):
        told = {True: 0, False: 0}
        for table, speed, reader in self.cases(60):
            wrong = any(
                wrong_in(table, run, leaf[1]) for looks, word, leaf in plain_paths(reader) if leaf[0] == "tell"
                for run in plain_runs_of(table, speed, looks, word))
            found = wrong_path(table, speed, reader)
            self.assertEqual(found is not None, wrong, (table, speed, reader))
            told[wrong] += 1
            if wrong:
                self.judge(table, speed, reader, found)
        self.assertGreater(min(told.values()), 300)

    def test_filled_reader(self):
        told = {"tell": 0, "again": 0}
        for table, speed, reader in self.cases(40):
            due = plain_filled(table, speed, reader)
            self.assertEqual(outcome(filled_reader, table, speed, reader), returned(due), (table, speed, reader))
            self.assertIsNone(reader_error(table, due))
            self.assertIsNone(wrong_path(table, speed, due))
            self.assertEqual(filled_reader(table, speed, due), due)
            for _, _, leaf in paths_of(due):
                told[leaf[0]] += 1
        self.assertGreater(min(told.values()), 300)

    def test_filled_gives_up_least(self):
        for table, speed, reader in self.cases(12):
            filled = paths_of(filled_reader(table, speed, reader))
            for (looks, word, leaf), (_, _, full) in zip(paths_of(reader), filled):
                runs = plain_runs_of(table, speed, looks, word)
                values = range(min(table[1]) - 1, max(table[1]) + 2) if max(table[1]) < 10 ** 6 else table[1]
                sure = [v for v in values if not any(wrong_in(table, run, v) for run in runs)]
                if runs:
                    self.assertEqual(full, ("tell", sure[0]) if sure else ("again",))
                else:
                    self.assertEqual(full, ("again",))

    def test_sure_values_at_their_edges(self):
        # The word ((0,), (1,)) leaves 10 to 15 sure of STILL, whatever goes by.
        for value, right in ((9, False), (10, True), (12, True), (15, True), (16, False)):
            reader = ("look", (0,), (((0,), ("look", (0,), (((2,), ("tell", value)),))),))
            found = wrong_path(STILL, None, reader)
            self.assertEqual(found is None, right, value)
            if not right:
                self.judge(STILL, None, reader, found)

    def test_the_number_counts_all_leaves(self):
        reader = ("look", (0, 1), (
            ((0, 0), ("again",)), ((0, 1), ("look", (0,), (((0,), ("tell", 2)), ((1,), ("again",))))),
            ((1, 0), ("tell", 1)), ((1, 1), ("tell", 2)), ((7, 7), ("tell", 9))))
        self.assertEqual(wrong_path(FOUR, None, reader), (4, (3,)))

    def test_leaves_that_nobody_comes_to(self):
        reader = ("look", (0,), (((0,), ("look", (0,), (((0,), ("tell", 77)), ((1,), ("tell", 10))))),
                                 ((2,), ("look", (0,), (((1,), ("tell", 5)),))), ((9,), ("tell", -4))))
        self.assertEqual(wrong_path(STILL, None, reader), (0, (0, 0)))
        kept = ("look", (0,), (reader[2][1], reader[2][2]))
        for speed in SPEEDS:
            self.assertIsNone(wrong_path(STILL, speed, kept))
            self.assertEqual(filled_reader(STILL, speed, kept), ("look", (0,), (
                ((2,), ("look", (0,), (((1,), ("again",)),))), ((9,), ("again",)))))

    def test_readers_without_leaves(self):
        for speed in SPEEDS:
            self.assertIsNone(wrong_path(FOUR, speed, NO_LEAVES))
            self.assertEqual(filled_reader(FOUR, speed, NO_LEAVES), NO_LEAVES)


class WhatHoldsTest(unittest.TestCase):
    """J6."""

    def lives(self, table, speed, many):
        return plain_states(table, speed, many)

    def test_what_is_told_lies_between_and_never_goes_back(self):
        pick = random.Random(14)
        told = {True: 0, False: 0}
        for table in TABLES[:3] + TABLES[5:6] + (FOUR,):
            for number in range(24):
                reader = random_reader(pick, table, pick.randrange(1, 3))
                for speed in (None, 0, 1, 2):
                    reader = filled_reader(table, speed, reader) if number % 2 else reader
                    right = wrong_path(table, speed, reader) is None
                    told[right] += 1
                    lies = True
                    for life in self.lives(table, speed, 5):
                        tells = tells_in(table, reader, life)
                        values = table[1]
                        lies = lies and all(values[life[a]] <= v <= values[life[b]] for v, a, b in tells)
                        if right:
                            later = [v for v, _, _ in tells]
                            self.assertEqual(later, sorted(later), (table, speed, reader, life))
                    self.assertEqual(lies, right, (table, speed, reader))
        self.assertGreater(min(told.values()), 30)

    def test_a_wrong_path_is_the_beginning_of_a_life(self):
        pick = random.Random(15)
        seen = 0
        for table in TABLES + (FOUR,):
            for _ in range(60):
                reader = random_reader(pick, table, pick.randrange(1, 4))
                for speed in SPEEDS:
                    found = wrong_path(table, speed, reader)
                    if found is not None:
                        seen += 1
                        number, run = found
                        value = paths_of(reader)[number][2][1]
                        self.assertEqual(tells_in(table, reader, run), ((value, 0, len(run) - 1),))
        self.assertGreater(seen, 300)

    def test_right_at_a_speed_is_right_at_each_lesser_one(self):
        pick = random.Random(16)
        for table in TABLES + (FOUR,):
            for _ in range(60):
                reader = random_reader(pick, table, pick.randrange(1, 4))
                rights = [wrong_path(table, speed, reader) is None for speed in (None, 200, 3, 2, 1, 0)]
                self.assertEqual(rights, sorted(rights))
                filled = [filled_reader(table, speed, reader) for speed in (None, 3, 1, 0)]
                for slower in range(4):
                    for faster in range(slower + 1):
                        speed = (None, 3, 1, 0)[slower]
                        self.assertIsNone(wrong_path(table, speed, filled[faster]))

    def test_one_look(self):
        for table in TABLES:
            cells = tuple(range(len(table[0][0])))
            for lot in itertools.chain.from_iterable(itertools.combinations(cells, many) for many in range(1, 4)):
                shown = {}
                for state, word in enumerate(table[0]):
                    shown.setdefault(tuple([word[cell] for cell in lot]), set()).add(table[1][state])
                branches = [(sight, ("tell", min(shown[sight]))) for sight in sorted(shown) if len(shown[sight]) == 1]
                reader = ("look", lot, tuple(branches))
                for speed in SPEEDS:
                    self.assertIsNone(wrong_path(table, speed, reader))


class GreatTest(unittest.TestCase):

    def table(self, pick, cells, signs):
        words = [[0] * cells]
        while len(words) < 200:
            word = list(words[-1])
            cell = pick.randrange(cells)
            word[cell] = min(199, max(0, word[cell] + pick.choice((1, 1, -1)))) % signs
            words.append(word)
        values = tuple(sorted([pick.randrange(-10 ** 12, 10 ** 12) for _ in range(200)]))
        return tuple(map(tuple, words)), values

    def reader(self, pick, table, looks):
        """A reader of so many looks in a row, with leaves at their sides, of sixty nodes at most."""
        cells = range(len(table[0][0]))
        node = ("tell", pick.choice(table[1]))
        for _ in range(looks):
            lot = tuple(sorted(pick.sample(cells, pick.randrange(1, 3))))
            sights = sorted({tuple([word[cell] for cell in lot]) for word in pick.sample(table[0], 6)})
            at = pick.randrange(len(sights))
            branches = [(sight, node if k == at else ("tell", pick.choice(table[1]))) for k, sight in enumerate(sights)]
            node = ("look", lot, tuple(branches))
        return node

    def plain_met(self, table, speed, looks, word):
        """The greatest begin and the least end of all runs that read word, by stepping; None if there are none."""
        shown = [[s for s in range(200) if tuple([table[0][s][cell] for cell in lot]) == sight]
                 for lot, sight in zip(looks, word)]
        steps = 200 if speed is None else speed
        ahead = shown[0]
        for states in shown[1:]:
            ahead = [s for s in states if any(0 <= s - t <= steps for t in ahead)]
        back = shown[-1]
        for states in shown[-2::-1]:
            back = [s for s in states if any(0 <= t - s <= steps for t in back)]
        return (table[1][max(back)], table[1][min(ahead)]) if ahead else None

    def test_eight_looks_at_two_hundred_states(self):
        pick = random.Random(17)
        told = {True: 0, False: 0}
        for cells, signs in ((2, 5), (8, 2), (3, 9), (8, 200)):
            table = self.table(pick, cells, signs)
            self.assertIsNone(table_error(table))
            for speed in (None, 0, 1, 7, 200):
                reader = self.reader(pick, table, 8)
                self.assertIsNone(reader_error(table, reader))
                sure = [(self.plain_met(table, speed, looks, word), leaf) for looks, word, leaf in plain_paths(reader)]
                wrong = any(met is not None and not met[0] <= leaf[1] <= met[1] for met, leaf in sure)
                found = wrong_path(table, speed, reader)
                self.assertEqual(found is not None, wrong)
                if found is not None:
                    SmallTest.judge(self, table, speed, reader, found)
                filled = filled_reader(table, speed, reader)
                due = [("tell", met[0]) if met is not None and met[0] <= met[1] else ("again",) for met, _ in sure]
                self.assertEqual([leaf for _, _, leaf in paths_of(filled)], due)
                self.assertIsNone(wrong_path(table, speed, filled))
                for leaf in due:
                    told[leaf[0] == "tell"] += 1
        self.assertGreater(min(told.values()), 20)

    def test_calls(self):
        values = [PLAIN, list(PLAIN), ("look", [0], ()), ("look", (0,), [[1]]), {"a": [1]}, None, wide(60), chain(9)]
        check_calls(self, reader_error, ("table", "value"), [(FOUR, value) for value in values])
        check_calls(self, paths_of, ("reader",), [(reader,) for reader in (PLAIN, TWICE, LOW, NO_LEAVES, chain(8))])
        calls = [(FOUR, speed, reader) for speed in (None, 0, 1) for reader in (PLAIN, TWICE, LOW, NO_LEAVES)]
        check_calls(self, wrong_path, ("table", "speed", "reader"), calls)
        check_calls(self, filled_reader, ("table", "speed", "reader"), calls)


if __name__ == "__main__":
    unittest.main()
