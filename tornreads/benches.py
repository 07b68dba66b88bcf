"""Benches: the looks at one counter, written down in readings, and what they leave open together."""

from tornreads.bounds import MAX_EDITS, MAX_READINGS, MAX_READS
from tornreads.counters import counter_error, lot_error, sight_error
from tornreads.errors import BadCounter, BadLog, NoRun, NothingToUndo, TooManyEdits, TornError, Unfit
from tornreads.excess import worst_beyond, worst_short
from tornreads.kinds import is_between, is_tuple_of
from tornreads.readings import joined_log, log_sures, log_windows, now_of
from tornreads.runs import stuck_at
from tornreads.telling import told_by

NO_LOOKS = ((), ())
DONE = ("done",)


class Bench:
    """The notebook of somebody who watches counter: closed readings, an open one, and the edits that made them."""

    def __init__(self, counter):
        error = counter_error(counter)
        if error is not None:
            raise BadCounter(error)
        self.counter = counter
        self.log = ()
        self.opened = NO_LOOKS
        self.edits = ()
        self.version = 0
        self.undone = ()

    def __eq__(self, other):
        return (
            isinstance(other, Bench) and self.counter == other.counter and self.log == other.log
            and self.opened == other.opened
        )

    def look(self, lot, sight):
        """Puts a look behind all others; the new version."""
        if lot_error(self.counter, lot) is not None or sight_error(self.counter, lot, sight) is not None:
            raise Unfit()
        row, word = self.opened
        if len(row) == MAX_READS or len(self.log) == MAX_READINGS:
            raise Unfit()
        reads, sights = joined_log(self.counter, self.log + ((row + (lot,), word + (sight,)),))
        if stuck_at(self.counter, reads, sights) is not None:
            raise NoRun(len(reads) - 1)
        return self.stand(("look", lot, sight))

    def done(self):
        """Closes the open reading; the new version."""
        if self.opened == NO_LOOKS:
            raise Unfit()
        return self.stand(DONE)

    def undo(self):
        """Takes back the last edit that stands; the version then."""
        if self.edits == ():
            raise NothingToUndo()
        edit = self.edits[-1]
        if edit == DONE:
            self.opened = self.log[-1]
            self.log = self.log[:-1]
        else:
            row, word = self.opened
            self.opened = (row[:-1], word[:-1])
        self.edits = self.edits[:-1]
        self.undone = self.undone + (edit,)
        self.version = len(self.edits)
        return self.version

    def redo(self):
        """Does again the edit that was taken back last; the version then."""
        if self.undone == ():
            raise NothingToUndo()
        edit = self.undone[-1]
        self.undone = self.undone[:-1]
        return self.write(edit)

    def copy(self):
        """A bench with the same edits, those taken back among them, that goes on by itself."""
        other = Bench(self.counter)
        other.log = self.log
        other.opened = self.opened
        other.edits = self.edits
        other.version = self.version
        other.undone = self.undone
        return other

    def windows(self):
        """For each closed reading its least and greatest begin, its least and greatest end over all runs."""
        # Where no reading is closed there may be no look at all, and no log.
        return () if self.log == () else log_windows(self.counter, self.readings())[:len(self.log)]

    def sures(self):
        """For each closed reading the first and the last value that surely stood while it was made, or None."""
        return () if self.log == () else log_sures(self.counter, self.readings())[:len(self.log)]

    def now(self):
        """The least and the greatest value at the last look over all runs."""
        if self.readings() == ():
            raise Unfit()
        return now_of(self.counter, self.readings())

    def told(self, reading):
        """The value that is put together from the digits of a closed reading."""
        row, word = self.closed(reading)
        return told_by(self.counter, row, word)

    def beyond(self, reading):
        """By how much told values of a closed reading's row can be beyond the end."""
        row, _ = self.closed(reading)
        return worst_beyond(self.counter, row)

    def short(self, reading):
        """By how much told values of a closed reading's row can be short of the begin."""
        row, _ = self.closed(reading)
        return worst_short(self.counter, row)

    def stand(self, edit):
        """Does an edit that is new, and forgets those that were taken back; the new version."""
        if len(self.edits) == MAX_EDITS:
            raise TooManyEdits()
        self.undone = ()
        return self.write(edit)

    def write(self, edit):
        """Does an edit that can be done; the version then."""
        if edit == DONE:
            self.log = self.log + (self.opened,)
            self.opened = NO_LOOKS
        else:
            _, lot, sight = edit
            row, word = self.opened
            self.opened = (row + (lot,), word + (sight,))
        self.edits = self.edits + (edit,)
        self.version = len(self.edits)
        return self.version

    def readings(self):
        """The closed readings, and the open one behind them if it has a look."""
        return self.log if self.opened == NO_LOOKS else self.log + (self.opened,)

    def closed(self, reading):
        """The closed reading with this number."""
        if not is_between(reading, 0, len(self.log) - 1):
            raise Unfit()
        return self.log[reading]


def bench_behind(counter, value):
    """A new bench on which the edits of value were done."""
    bench = Bench(counter)
    if not isinstance(value, tuple):
        raise BadLog(0)
    for place, edit in enumerate(value):
        if not is_edit(edit):
            raise BadLog(place)
        try:
            do_edit(bench, edit)
        except TornError:
            raise BadLog(place)
    return bench


def is_edit(value):
    """Whether value has the form of an edit, whatever its lot and its sight are."""
    return value == DONE or (is_tuple_of(value, 3, 3) and value[0] == "look")


def do_edit(bench, edit):
    """Does edit on bench, as one that is new."""
    if edit == DONE:
        bench.done()
    else:
        _, lot, sight = edit
        bench.look(lot, sight)
