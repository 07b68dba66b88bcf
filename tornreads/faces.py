"""Faces: counters whose places have names; texts of faces, rows and looks."""

from tornreads.bounds import MAX_BASE, MAX_LETTERS, MAX_PLACES, MAX_READS
from tornreads.counters import counter_error
from tornreads.countertexts import FIGURES
from tornreads.errors import BadText
from tornreads.kinds import is_tuple_of

LETTERS = "abcdefghijklmnopqrstuvwxyz"


def face_error(value):
    """None if value is a face, otherwise what is wrong with it."""
    if not is_tuple_of(value, 2, 2) or not isinstance(value[0], tuple):
        return "form"
    names, counter = value
    error = counter_error(counter)
    if error is not None:
        return ("counter", error)
    if len(names) != len(counter):
        return "many"
    for k, name in enumerate(names):
        if not is_name(name):
            return ("name", k)
    for k, name in enumerate(names):
        if name in names[:k]:
            return ("twice", k)
    return None


def face_text(face):
    """The text of face: the name and the base of each place, from the greatest one down."""
    names, counter = face
    return " ".join([f"{name}:{base}" for name, base in reversed(list(zip(names, counter)))])


def read_face(value):
    """The face of which value is the text."""
    names, counter = (), ()
    for k, word in enumerate(words_of(value)):
        name, _, figures = word.partition(":")
        base = number_in(figures, MAX_BASE)
        if k == MAX_PLACES or not is_name(name) or name in names or base is None or base < 2:
            raise BadText(k)
        names, counter = (name,) + names, (base,) + counter
    return (names, counter)


def row_text(face, row):
    """The text of row: for each read the names of its places, from the greatest one down."""
    names, _ = face
    return " ".join(["+".join([names[place] for place in reversed(lot)]) for lot in row])


def read_row(face, value):
    """The row of which value is the text."""
    row = []
    for k, word in enumerate(words_of(value)):
        lot = lot_in(face, word)
        if k == MAX_READS or lot is None:
            raise BadText(k)
        row.append(lot)
    return tuple(row)


def look_text(face, lot, sight):
    """The text of a look: the name and the digit of each place of lot, from the greatest one down."""
    names, _ = face
    return " ".join([f"{names[place]}={digit}" for place, digit in reversed(list(zip(lot, sight)))])


def read_look(face, value):
    """The lot and the sight of which value is the text."""
    _, counter = face
    lot, sight = (), ()
    for k, word in enumerate(words_of(value)):
        name, _, figures = word.partition("=")
        place = place_below(face, name, lot)
        digit = None if place is None else number_in(figures, counter[place] - 1)
        if digit is None:
            raise BadText(k)
        lot, sight = (place,) + lot, (digit,) + sight
    return (lot, sight)


def is_name(value):
    """Whether value is a name."""
    if not isinstance(value, str) or not 1 <= len(value) <= MAX_LETTERS:
        return False
    return all([letter in LETTERS for letter in value])


def words_of(value):
    """What stands between the blanks of value."""
    if not isinstance(value, str):
        raise BadText(0)
    return value.split(" ")


def number_in(text, most):
    """The number from 0 to most that text tells in decimal, None if it tells none."""
    # More figures than most has tell more, and Python reads a few thousand of them at most.
    if text == "" or len(text) > len(str(most)) or not all([sign in FIGURES for sign in text]):
        return None
    if text[0] == "0" and text != "0":
        return None
    return int(text) if int(text) <= most else None


def lot_in(face, word):
    """The lot whose names word tells, None if it tells none."""
    lot = ()
    for name in word.split("+"):
        place = place_below(face, name, lot)
        if place is None:
            return None
        lot = (place,) + lot
    return lot


def place_below(face, name, lot):
    """The place that has name, None if there is none, or none below all places of lot."""
    names, _ = face
    lower = names[:lot[0]] if lot else names
    return lower.index(name) if name in lower else None
