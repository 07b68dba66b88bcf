"""Shells: benches of faces, led and asked by lines of text."""

from tornreads.always import always_sure
from tornreads.benches import Bench
from tornreads.countertexts import value_text
from tornreads.errors import TornError, Unfit
from tornreads.excess import worst_beyond, worst_short
from tornreads.faces import look_text, number_in, read_face, read_look, read_row, row_text
from tornreads.keeping import part_for
from tornreads.ladders import ladder_of
from tornreads.mending import put_in, puts_for

MOST_ASKED = 999
ALONE = ("done", "undo", "redo", "show", "now", "beyond", "short", "always")
WITH_TEXT = ("face", "look", "plan")
WITH_NUMBER = ("show", "window", "sure", "told", "beyond", "short")
WITH_WAY = ("ladder",)
WITH_WANT = ("mend", "keep")
WAYS = ("down", "up", "mirror")
WANTS = ("down", "up", "both", "mirror")


class Shell:
    """A face, a bench of its counter, and a plan, a row of it: each of them None as long as there is none."""

    def __init__(self):
        self.face = None
        self.bench = None
        self.plan = None

    def say(self, line):
        """The answer to line."""
        if not isinstance(line, str):
            return "what"
        word, blank, rest = line.partition(" ")
        if not is_line(word, blank, rest):
            return "what"
        if self.face is None and word != "face":
            return "no face"
        asked = asks_of_plan(word, blank)
        if self.plan is None and asked:
            return "no plan"
        try:
            if asked:
                return self.of_plan(word, rest)
            return self.of_bench(word, blank, rest)
        except TornError as error:
            return "error " + type(error).__name__

    def of_bench(self, word, blank, rest):
        """The answer to a line that does not ask of the plan."""
        if word == "face":
            return self.begin(read_face(rest))
        if word == "plan":
            self.plan = read_row(self.face, rest)
            return f"reads {len(self.plan)}"
        if word in ("look", "done", "undo", "redo"):
            version = self.edited(word, rest)
            return f"version {version}"
        if word == "now":
            return self.values_text(self.bench.now())
        if blank == "":
            return self.looks_text(self.bench.opened)
        return self.of_reading(word, int(rest))

    def begin(self, face):
        """Takes face, with all else new."""
        _, counter = face
        self.face = face
        self.bench = Bench(counter)
        self.plan = None
        return f"version {self.bench.version}"

    def edited(self, word, rest):
        """The version behind the edit that is told."""
        if word == "look":
            lot, sight = read_look(self.face, rest)
            return self.bench.look(lot, sight)
        if word == "done":
            return self.bench.done()
        return self.bench.undo() if word == "undo" else self.bench.redo()

    def of_reading(self, word, number):
        """The answer to a line that asks of the closed reading with this number."""
        if word == "told":
            return self.values_text((self.bench.told(number),))
        if word == "beyond":
            return str(self.bench.beyond(number))
        if word == "short":
            return str(self.bench.short(number))
        if number >= len(self.bench.log):
            raise Unfit()
        if word == "show":
            return self.looks_text(self.bench.log[number])
        told = self.bench.windows() if word == "window" else self.bench.sures()
        return self.values_text(told[number])

    def of_plan(self, word, rest):
        """The answer to a line that asks of the plan."""
        _, counter = self.face
        if word == "ladder":
            return numbers_text(ladder_of(counter, self.plan, rest))
        if word == "beyond":
            return str(worst_beyond(counter, self.plan))
        if word == "short":
            return str(worst_short(counter, self.plan))
        if word == "always":
            return "yes" if always_sure(counter, self.plan) else "no"
        if word == "mend":
            puts = puts_for(counter, self.plan, rest)
            return f"{len(puts)}: {row_text(self.face, put_in(counter, self.plan, puts))}"
        part = part_for(counter, self.plan, rest)
        return "none" if part is None else f"{len(part)}: {numbers_text(part)}"

    def values_text(self, numbers):
        """The texts of numbers as values of the counter, with blanks between; "none" for None."""
        _, counter = self.face
        return "none" if numbers is None else " ".join([value_text(counter, number) for number in numbers])

    def looks_text(self, reading):
        """The texts of the looks of a reading, "none" if it has none."""
        row, word = reading
        looks = [look_text(self.face, lot, sight) for lot, sight in zip(row, word)]
        return "; ".join(looks) if looks else "none"


def is_line(word, blank, rest):
    """Whether there is a line of word, and of rest behind a blank if there is one."""
    if blank == "":
        return word in ALONE
    if word in WITH_NUMBER:
        return number_in(rest, MOST_ASKED) is not None
    if word in WITH_WAY:
        return rest in WAYS
    if word in WITH_WANT:
        return rest in WANTS
    return word in WITH_TEXT


def asks_of_plan(word, blank):
    """Whether such a line asks of the plan; "beyond" and "short" do alone, and ask of a reading with a number."""
    return word in ("ladder", "always", "mend", "keep") or (blank == "" and word in ("beyond", "short"))


def numbers_text(numbers):
    """The numbers in decimal with blanks between, "none" for None."""
    return "none" if numbers is None else " ".join([str(number) for number in numbers])
