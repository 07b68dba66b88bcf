"""J5: what readers tell in lives."""

import itertools
import random
import unittest

from tests.helper import RING, STILL, TABLES, check_calls, outcome, random_reader, returned
from tornreads.lives import tells_in
from tornreads.readers import filled_reader, reader_error

FOUR = (((0, 0), (1, 0), (0, 1), (1, 1)), (0, 1, 2, 3))
LOW = ("look", (0,), (((0,), ("tell", 0)), ((1,), ("tell", 1))))
HIGH = ("look", (0,), (((0,), ("tell", 2)), ((1,), ("tell", 3))))
PLAIN = ("look", (1,), (((0,), LOW), ((1,), HIGH)))


def plain_tells(table, reader, life, first=0):
    """What is told from the moment first on, by going from reading to reading."""
    if first >= len(life):
        return []
    node, moment = reader, first
    while True:
        seen = tuple([table[0][life[moment]][cell] for cell in node[1]])
        node = dict(node[2]).get(seen, ("again",))
        if node[0] == "tell":
            return [(node[1], first, moment)] + plain_tells(table, reader, life, moment + 1)
        if node[0] == "again":
            return plain_tells(table, reader, life, moment + 1)
        moment += 1
        if moment == len(life):
            return []


class TellsTest(unittest.TestCase):

    def check(self, table, reader, life, due):
        self.assertEqual(outcome(tells_in, table, reader, life), returned(due), (reader, life))

    def test_beside_plain_going_on(self):
        pick = random.Random(1)
        told = 0
        for table in TABLES + (FOUR,):
            for _ in range(30):
                reader = random_reader(pick, table, pick.randrange(1, 5))
                self.assertIsNone(reader_error(table, reader))
                for _ in range(12):
                    life = tuple(sorted([pick.randrange(len(table[0])) for _ in range(pick.randrange(1, 15))]))
                    due = tuple(plain_tells(table, reader, life))
                    told += len(due)
                    self.check(table, reader, life, due)
        self.assertGreater(told, 3000)

    def test_all_short_lives(self):
        for reader in (PLAIN, LOW, filled_reader(FOUR, None, PLAIN)):
            for many in range(1, 6):
                for life in itertools.combinations_with_replacement(range(4), many):
                    self.check(FOUR, reader, life, tuple(plain_tells(FOUR, reader, life)))

    def test_one_moment(self):
        self.check(FOUR, LOW, (3,), ((1, 0, 0),))
        self.check(FOUR, PLAIN, (3,), ())
        self.check(FOUR, ("look", (0,), (((1,), ("again",)),)), (3,), ())

    def test_over_amid_a_reading(self):
        for many in range(1, 9):
            life = (2,) * many
            due = tuple([(2, 2 * k, 2 * k + 1) for k in range(many // 2)])
            self.check(FOUR, PLAIN, life, due)
        eight = ("look", (0,), (((0,), LOW),))
        for _ in range(6):
            eight = ("look", (0,), (((0,), eight),))
        self.assertIsNone(reader_error(FOUR, eight))
        for many in range(1, 26):
            due = tuple([(0, 8 * k, 8 * k + 7) for k in range(many // 8)])
            self.check(FOUR, eight, (0,) * many, due)

    def test_giving_up_and_telling_alike_begin_anew(self):
        given = ("look", (0,), (((0,), ("again",)), ((1,), ("look", (1,), (((0,), ("tell", 7)), ((1,), ("again",)))))))
        self.check(FOUR, given, (0, 1, 1), ((7, 1, 2),))
        self.check(FOUR, given, (0, 0, 0, 1, 1, 1, 1), ((7, 3, 4), (7, 5, 6)))
        self.check(FOUR, given, (1, 3, 3, 3), ())
        self.check(FOUR, given, (1, 1, 1, 3, 3), ((7, 0, 1),))
        # What no branch has seen is as if it gave up.
        seen = ("look", (0,), (((1,), ("look", (1,), (((0,), ("tell", 7)),))),))
        for life in ((0, 1, 1), (0, 0, 0, 1, 1, 1, 1), (1, 3, 3, 3), (1, 1, 1, 3, 3)):
            self.check(FOUR, seen, life, tells_in(FOUR, given, life))

    def test_no_branches(self):
        for life in ((0,), (0, 1, 2), (3,) * 9):
            self.check(FOUR, ("look", (0, 1), ()), life, ())
        self.check(FOUR, ("look", (0, 1), (((0, 0), ("look", (0,), ())), ((1, 0), ("tell", 1)))), (0, 0, 1, 1), (
            (1, 2, 2), (1, 3, 3)))
        self.check(FOUR, ("look", (0, 1), (((0, 0), ("look", (0,), ())), ((1, 0), ("tell", 1)))), (0, 1, 1), ((1, 2, 2),))

    def test_thousands_of_moments(self):
        pick = random.Random(2)
        for table in TABLES:
            reader = random_reader(pick, table, 3)
            steps = sorted([pick.randrange(len(table[0])) for _ in range(6000)])
            due = []
            first = 0
            # In pieces, each begun where a reading begins, as plain_tells goes deeper with each reading.
            while first < len(steps):
                node, moment = reader, first
                while node[0] == "look" and moment < len(steps):
                    word = table[0][steps[moment]]
                    node = dict(node[2]).get(tuple([word[cell] for cell in node[1]]), ("again",))
                    moment += 1
                if node[0] == "tell":
                    due.append((node[1], first, moment - 1))
                first = moment
            self.check(table, reader, tuple(steps), tuple(due))

    def test_calls(self):
        calls = [
            (FOUR, PLAIN, (1, 2)), (FOUR, PLAIN, (0, 0, 1, 1, 1)), (FOUR, ("look", (0,), ()), (0, 1, 3)), (FOUR, LOW, (3,)),
            (RING, ("look", (0, 1), (((0, 0), ("tell", 4)),)), (0, 2, 4)), (STILL, ("look", (0,), ()), (3,) * 50),
        ]
        check_calls(self, tells_in, ("table", "reader", "life"), calls)


if __name__ == "__main__":
    unittest.main()
