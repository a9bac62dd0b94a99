"""Records: what a journal writes about a run, and how it is read again.

A line says everything twice, with a sign in between that stands nowhere else. One changed character changes one of the
two sayings alone, or the number of the signs; one that is put in or removed changes the lengths. So of two different
whole lines none comes from the other one by such a change.
"""

from retrysafe.decimals import decimals, number_in
from retrysafe.errors import NoValue
from retrysafe.texts import format_job

_SIGN = "#"
_BETWEEN = ";"
_FIELDS = 7
_TAKEN = 4
_BROKEN = 3
_MOST_DIGITS = 4000


def doubled(fields):
    """The line that says these fields."""
    told = _BETWEEN.join(fields)
    return told + _SIGN + told


def broken_and_taken(line):
    """What a line tells of the moves ahead of it: whether there was a failure, and the taken values; or None."""
    told, _, _ = line.partition(_SIGN)
    fields = told.split(_BETWEEN)
    if len(fields) != _FIELDS or fields[_BROKEN] not in ("0", "1"):
        return None
    is_broken = fields[_BROKEN] == "1"
    if fields[_TAKEN] == "":
        return is_broken, ()
    number = number_in(fields[_TAKEN], _MOST_DIGITS)
    return None if number is None else (is_broken, (number,))


def performed_next(run, taken):
    """Goes on to the next execution that is performed, with these taken values; its number, or None."""
    run.taken = taken
    run.used = 0
    while not run.is_through():
        try:
            move = run.step()
        except NoValue:
            return None
        if move[0] == "do":
            return move[1]
    return None


class Record:
    """A run of a job with marks, and the lines that are written about it."""

    def __init__(self, marks, run):
        self.marked = marks
        self.run = run
        # Lines of runs with other values or arguments are other lines.
        self.head = [decimals(run.first_values()), decimals(run.given_values())]
        self.written = [doubled([format_job(marks.job).replace("\n", "|"), decimals(marks.places)] + self.head)]
        # Whether there was a failure since the last line.
        self.is_broken = False

    def step(self):
        """Makes a step of the run, and writes about it if an execution is performed."""
        used = self.run.used
        move = self.run.step()
        if move[0] == "do":
            self.written.append(self.line_of(self.run, move[1], used, self.is_broken))
            self.is_broken = False
        return move

    def fail(self):
        """Begins a new attempt."""
        self.run.fail()
        self.is_broken = True

    def line_of(self, run, e, used, is_broken):
        """The line of an execution that a run performed last, ahead of which so many values were taken."""
        told = [str(e), str(int(is_broken)), decimals(run.taken[used:run.used])]
        return doubled(self.head + told + [decimals(run.durable_values()), decimals(run.local_values())])

    def copy(self):
        """An equal, independent record."""
        found = Record(self.marked, self.run.copy())
        found.written = list(self.written)
        found.is_broken = self.is_broken
        return found

    def follow(self, text):
        """Makes the moves that the lines of a text tell, as long as these are those of some run of this machine."""
        # What stands behind the last line feed is torn.
        lines = text.split("\n")[:-1]
        if lines[:1] != self.written:
            return
        for line in lines[1:]:
            told = broken_and_taken(line)
            if told is None:
                return
            is_broken, taken = told
            ahead = self.run.copy()
            if is_broken:
                ahead.fail()
            e = performed_next(ahead, taken)
            if e is None or self.line_of(ahead, e, 0, is_broken) != line:
                return
            self.run = ahead
            self.written.append(line)

    def go_on(self, taken):
        """Begins a new attempt for which other values will be taken."""
        self.fail()
        self.run.taken = taken
        self.run.used = 0
