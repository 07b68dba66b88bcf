"""L2, L3 and L5: faces, and texts of faces, rows and looks."""

import itertools
import random
import re
import unittest

from tests.helper import (
    ODD_VALUES, all_lots, all_sights, changed_texts, check_calls, outcome, raised, returned, rows_up_to,
)
from tornreads.benches import Bench
from tornreads.counters import counter_error
from tornreads.errors import BadText
from tornreads.faces import face_error, face_text, look_text, read_face, read_look, read_row, row_text

CLOCK, DIAL = (("s", "m", "h"), (60, 60, 24)), (("low", "high"), (10, 10))
LONE = (("abcdefgh",), (10 ** 6,))
GREAT = (tuple("abcdefghijkl"), (10 ** 6, 2, 3, 10, 11, 100, 101, 10 ** 6, 7, 9, 99, 1000))
FACES = (CLOCK, DIAL, LONE, GREAT, (("a", "aa"), (2, 3)), (("z", "y", "x"), (2, 2, 2)))
NUMBER = "(0|[1-9][0-9]*)"


def plain_number(text):
    """The number, or a great one for so many figures."""
    return int(text) if len(text) < 30 else 10 ** 40


def plain_face(value):
    """What read_face has to come to, by a pattern for each word."""
    if not isinstance(value, str):
        return raised(BadText(0))
    names, bases = [], []
    for k, word in enumerate(re.split(" ", value)):
        found = re.fullmatch("([a-z]{1,8}):" + NUMBER, word)
        if not found or k > 11 or found[1] in names or not 2 <= plain_number(found[2]) <= 10 ** 6:
            return raised(BadText(k))
        names.append(found[1])
        bases.append(int(found[2]))
    return returned((tuple(names[::-1]), tuple(bases[::-1])))


def plain_row(face, value):
    """What read_row has to come to: the word of each lot is looked up among all of them."""
    if not isinstance(value, str):
        return raised(BadText(0))
    lots = {"+".join([face[0][place] for place in lot[::-1]]): lot for lot in all_lots(face[1])}
    row = []
    for k, word in enumerate(re.split(" ", value)):
        if k > 39 or word not in lots:
            return raised(BadText(k))
        row.append(lots[word])
    return returned(tuple(row))


def plain_look(face, value):
    """What read_look has to come to, by a pattern for each word."""
    if not isinstance(value, str):
        return raised(BadText(0))
    lot, sight = [], []
    for k, word in enumerate(re.split(" ", value)):
        found = re.fullmatch("([a-z]+)=" + NUMBER, word)
        place = face[0].index(found[1]) if found and found[1] in face[0] else len(face[0])
        if place == len(face[0]) or lot and place >= lot[-1] or plain_number(found[2]) >= face[1][place]:
            return raised(BadText(k))
        lot.append(place)
        sight.append(int(found[2]))
    return returned((tuple(lot[::-1]), tuple(sight[::-1])))


class FaceErrorTest(unittest.TestCase):

    def check(self, value, due):
        self.assertEqual(outcome(face_error, value), returned(due), value)

    def test_right_faces(self):
        for face in FACES:
            self.check(face, None)

    def test_form(self):
        for value in ODD_VALUES + (Bench((2, 2)), list(CLOCK), CLOCK + (1,), CLOCK[:1], (["s"], (60,)), ("smh", (60, 60, 24)),
                                   (None, (60,)), ({"s": 1}, (60,)), {0: 1, 1: 2}, "ab"):
            self.check(value, "form")

    def test_counter(self):
        for counter in ODD_VALUES + ((60, 60, 1), (60, True, 24), (2,) * 13, [60, 60, 24], (10 ** 6 + 1,) * 3):
            self.assertIsNotNone(counter_error(counter))
            self.check((("s", "m", "h"), counter), ("counter", counter_error(counter)))
            self.check(((), counter), ("counter", counter_error(counter)))

    def test_many(self):
        for names in ((), ("s",), ("s", "m"), ("s", "m", "h", "d"), ("s",) * 4, (1, 2), (None,) * 12):
            self.check((names, CLOCK[1]), "many")

    def test_name(self):
        odd = ODD_VALUES + ("S", "sS", "s1", "s ", " s", "abcdefghi", "a_b", "h:", "+", "=", "a\n", "\n", ["s"], ("s",))
        for name in odd:
            if name != "x":
                self.check(((name, "m", "h"), CLOCK[1]), ("name", 0))
                self.check((("s", "m", name), CLOCK[1]), ("name", 2))
        for letters in range(1, 9):
            self.check((("z" * letters,), (2,)), None)
        for letter in "abcdefghijklmnopqrstuvwxyz":
            self.check(((letter,), (2,)), None)
        for code in range(32, 127):
            self.check((("a" + chr(code),), (2,)), None if chr(code) in "abcdefghijklmnopqrstuvwxyz" else ("name", 0))

    def test_twice(self):
        self.check((("s", "m", "s"), CLOCK[1]), ("twice", 2))
        self.check((("s", "s", "m"), CLOCK[1]), ("twice", 1))
        self.check((("m", "s", "s"), CLOCK[1]), ("twice", 2))
        self.check((("s", "s", "s"), CLOCK[1]), ("twice", 1))
        self.check((("a", "b", "b", "a"), (2,) * 4), ("twice", 2))

    def test_two_faults(self):
        self.check((["s"], (1,)), "form")
        self.check((("S", "S"), (60, 1, 24)), ("counter", ("base", 1)))
        self.check((("S", "S"), CLOCK[1]), "many")
        self.check((("s", "s", "S"), CLOCK[1]), ("name", 2))
        self.check((("S", "s", "s"), CLOCK[1]), ("name", 0))


class TextsTest(unittest.TestCase):

    def test_faces_there_and_back(self):
        texts = {}
        for face in FACES:
            text = face_text(face)
            self.assertEqual(text, " ".join([name + ":" + str(base) for name, base in list(zip(*face))[::-1]]))
            self.assertEqual(outcome(read_face, text), returned(face))
            texts[text] = face
        pick = random.Random(1)
        for _ in range(300):
            names = pick.sample(["".join(pair) for pair in itertools.product("abz", repeat=2)], pick.randrange(1, 8))
            face = (tuple(names), tuple([pick.randrange(2, pick.choice((4, 12, 10 ** 6 + 1))) for _ in names]))
            self.assertEqual(outcome(read_face, face_text(face)), returned(face))
            self.assertEqual(texts.setdefault(face_text(face), face), face)

    def test_rows_there_and_back(self):
        for face in FACES:
            if len(face[1]) <= 3:
                texts = set()
                rows = rows_up_to(face[1], 3)
                for row in rows:
                    text = row_text(face, row)
                    texts.add(text)
                    self.assertEqual(outcome(read_row, face, text), returned(row))
                    self.assertEqual(plain_row(face, text), returned(row))
                self.assertEqual(len(texts), len(rows))
        every = tuple(range(12))
        self.assertEqual(row_text(GREAT, (every,)), "l+k+j+i+h+g+f+e+d+c+b+a")
        self.assertEqual(read_row(GREAT, row_text(GREAT, (every,) * 40)), (every,) * 40)

    def test_looks_there_and_back(self):
        for face in ((("a", "b"), (2, 3)), (("b", "a", "c"), (2, 3, 2)), DIAL):
            texts = set()
            looks = [(lot, sight) for lot in all_lots(face[1]) for sight in all_sights(face[1], lot)]
            for lot, sight in looks:
                text = look_text(face, lot, sight)
                texts.add(text)
                self.assertEqual(outcome(read_look, face, text), returned((lot, sight)))
                self.assertEqual(plain_look(face, text), returned((lot, sight)))
            self.assertEqual(len(texts), len(looks))
        every, greatest = tuple(range(12)), tuple([base - 1 for base in GREAT[1]])
        text = look_text(GREAT, every, greatest)
        self.assertEqual(text, "l=999 k=98 j=8 i=6 h=999999 g=100 f=99 e=10 d=9 c=2 b=1 a=999999")
        self.assertEqual(read_look(GREAT, text), (every, greatest))


class WrongTextsTest(unittest.TestCase):

    def face(self, value, place):
        self.assertEqual(outcome(read_face, value), raised(BadText(place)), value)

    def row(self, value, place, face=CLOCK):
        self.assertEqual(outcome(read_row, face, value), raised(BadText(place)), value)

    def look(self, value, place, face=CLOCK):
        self.assertEqual(outcome(read_look, face, value), raised(BadText(place)), value)

    def test_no_string(self):
        for value in ODD_VALUES + (Bench((2, 2)), CLOCK, ["h"]):
            if not isinstance(value, str):
                self.face(value, 0)
                self.row(value, 0)
                self.look(value, 0)

    def test_blanks(self):
        for value in ("", " ", "  ", " h"):
            self.face(value, 0)
            self.row(value, 0)
            self.look(value, 0)
        self.face(" h:24", 0)
        self.face("h:24 ", 1)
        self.face("h:24  m:60", 1)
        self.face("h:24 m:60 ", 2)
        self.row(" h", 0)
        self.row("h ", 1)
        self.row("h  s", 1)
        self.row("h s  ", 2)
        self.look(" h=5", 0)
        self.look("h=5 ", 1)
        self.look("h=5  m=5", 1)
        self.look("h=5 m=5 ", 2)

    def test_words_of_faces(self):
        for word in ("h", "h:", ":24", ":", "h24", "h:24:60", "h=24", "H:24", "abcdefghi:24", "h1:24", "h:x", "h:-2",
                     "h:+2", "h:2.0", "h: ", "h:0", "h:1", "h:00", "h:02", "h:1000001", "h:9999999", "h:10000000",
                     "h:" + "1" * 19000, "h:24\n", "\nh:24", "h:2_4", "a+h:24", "h:24m:60", "h:024"):
            self.face(word, 0)
            self.face("d:7 " + word, 1)
            self.face("d:7 e:2 " + word + " x", 2)
        for base in (2, 9, 10, 999999, 10 ** 6):
            self.assertEqual(read_face(f"h:{base}"), (("h",), (base,)))

    def test_names_twice(self):
        self.face("h:24 h:60", 1)
        self.face("h:24 m:60 h:60 m:60", 2)
        self.assertEqual(read_face("hh:24 h:60"), (("h", "hh"), (60, 24)))

    def test_thirteen_places(self):
        words = [f"{letter}:10" for letter in "abcdefghijklmnop"]
        for many in range(1, 13):
            self.assertEqual(read_face(" ".join(words[:many]))[1], (10,) * many)
        for many in range(13, 17):
            self.face(" ".join(words[:many]), 12)
        self.face(" ".join(words[:12] + [""]), 12)
        self.face(" ".join(words[:11] + ["x", "y"]), 11)

    def test_words_of_rows(self):
        for word in ("d", "hh", "h+", "+h", "h++m", "+", "h+h", "m+h", "s+m", "s+h", "h+s+m", "m+s+s", "h=5", "h:24",
                     "H", "h,m", "h+m+d", "h+m+s+s", "h\n", "hm"):
            self.row(word, 0)
            self.row("h m+s " + word, 2)
            self.row("s " + word + " x", 1)
        self.assertEqual(read_row(CLOCK, "h h+s h+m+s m+s s"), ((2,), (0, 2), (0, 1, 2), (0, 1), (0,)))

    def test_forty_one_reads(self):
        for many in (1, 39, 40):
            self.assertEqual(read_row(CLOCK, " ".join(["h+s"] * many)), ((0, 2),) * many)
        for many in (41, 42, 100):
            self.row(" ".join(["h+s"] * many), 40)
        self.row(" ".join(["h"] * 40 + [""]), 40)
        self.row(" ".join(["h"] * 39 + ["x", "y"]), 39)

    def test_words_of_looks(self):
        for word in ("m", "m=", "=5", "=", "m5", "m=5=5", "m:5", "M=5", "d=5", "mm=5", "m=x", "m=-1", "m=+1", "m=60",
                     "m=61", "m=600", "m=05", "m=00", "m=5\n", "m=1_0", "m+s=5", "m=" + "1" * 19000, "m=5.0"):
            self.look(word, 0)
            self.look("h=23 " + word, 1)
            self.look("h=23 " + word + " x", 1)
        for digit in (0, 9, 10, 59):
            self.assertEqual(read_look(CLOCK, f"h=23 m={digit}"), ((1, 2), (digit, 23)))
        self.look("h=24", 0)
        self.look("h=23 s=60", 1)
        self.assertEqual(read_look(LONE, "abcdefgh=999999"), ((0,), (999999,)))
        self.look("abcdefgh=1000000", 0, LONE)

    def test_order_of_looks(self):
        for value, place in (("m=5 h=23", 1), ("m=5 m=5", 1), ("s=5 m=5", 1), ("h=5 s=5 m=5", 2), ("h=5 m=5 s=5 s=5", 3),
                             ("h=5 m=5 s=5 h=5", 3)):
            self.look(value, place)

    def test_changed_texts(self):
        signs = "0159:+= hmsx\nH"
        small = (("s", "m"), (2, 12))
        for text in ("h:24 m:60", "s:2", "hm:10 x:5 s:100"):
            for value in changed_texts(text, signs):
                self.assertEqual(outcome(read_face, value), plain_face(value), value)
        for text in ("h m+s s", "h+m+s", "s s h"):
            for value in changed_texts(text, signs):
                self.assertEqual(outcome(read_row, CLOCK, value), plain_row(CLOCK, value), value)
        for text in ("h=23 m=5", "m=59 s=0", "s=10"):
            for value in changed_texts(text, signs):
                self.assertEqual(outcome(read_look, CLOCK, value), plain_look(CLOCK, value), value)
                self.assertEqual(outcome(read_look, small, value), plain_look(small, value), value)

    def test_random_texts(self):
        pick = random.Random(2)
        right = 0
        for _ in range(6000):
            parts = [pick.choice(("h", "m", "s", "hm", "+", ":", "=", " ", "0", "1", "5", "12")) for _ in range(pick.randrange(1, 9))]
            value = "".join(parts)
            for function, due in ((lambda: outcome(read_face, value), plain_face(value)),
                                  (lambda: outcome(read_row, CLOCK, value), plain_row(CLOCK, value)),
                                  (lambda: outcome(read_look, CLOCK, value), plain_look(CLOCK, value))):
                self.assertEqual(function(), due, value)
                right += due[0] == "returns"
        self.assertGreater(right, 100)

    def test_calls(self):
        values = [CLOCK, list(CLOCK), (["s"], (60,)), (("s", []), (60, 60)), {"a": [1]}, None, (("s", "s"), (2, 2))]
        check_calls(self, face_error, ("value",), [(value,) for value in values])
        check_calls(self, face_text, ("face",), [(face,) for face in FACES])
        check_calls(self, read_face, ("value",), [("h:24 m:60",), ("h:24 h:60",), ("",), (None,), (["h:2"],)])
        check_calls(self, row_text, ("face", "row"), [(CLOCK, ((2,), (0, 1))), (DIAL, ((0, 1),) * 40)])
        check_calls(self, read_row, ("face", "value"), [(CLOCK, value) for value in ("h m+s", "h s+m", "", None, [1])])
        check_calls(self, look_text, ("face", "lot", "sight"), [(CLOCK, (1, 2), (5, 23)), (DIAL, (0,), (9,))])
        check_calls(self, read_look, ("face", "value"), [(CLOCK, value) for value in ("h=3 s=0", "s=0 h=3", "", 5, {})])


if __name__ == "__main__":
    unittest.main()
