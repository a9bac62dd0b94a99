"""The console: what the program does, told by lines."""

from retrysafe.campaigns import wrong_share
from retrysafe.decimals import decimal, decimals, number_in
from retrysafe.errors import InvalidLine, NoJob, NoMachine
from retrysafe.fewest import fewest
from retrysafe.machine import Machine
from retrysafe.marks import Marks
from retrysafe.studies import Study, least_failures
from retrysafe.texts import parse_job

_MOST_DIGITS = 300
_ALONE = ("safe", "fewest", "step", "fail", "finish")
_MOVES = ("step", "fail", "finish", "plans")


def told_by(line):
    """The pair of the first word of a line and what stands behind it, None for a word that stands alone."""
    if not isinstance(line, str) or "\n" in line:
        raise InvalidLine()
    if line in _ALONE:
        return line, None
    word, space, rest = line.partition(" ")
    if space == "" or word not in ("load", "mark", "start", "plans"):
        raise InvalidLine()
    if word == "load":
        return word, rest
    if word == "start":
        return word, lists_of(rest)
    if word == "plans":
        return word, numbers_of([rest])[0]
    return word, () if rest == "none" else numbers_of(rest.split(" "))


def numbers_of(words):
    """The tuple of the numbers of some words."""
    found = [number_in(word, _MOST_DIGITS) for word in words]
    if any([number is None for number in found]):
        raise InvalidLine()
    return tuple(found)


def lists_of(text):
    """The tuple of three tuples of numbers, with semicolons between them."""
    found = []
    for part in text.split(";"):
        found.append(numbers_of([word for word in part.split(" ") if word != ""]))
    if len(found) != 3:
        raise InvalidLine()
    return tuple(found)


def machine_line(machine, names):
    """The line of a machine whose durable variables have these names."""
    values = " ".join([name + "=" + decimal(value) for name, value in zip(names, machine.durable)])
    ended = ", ended" if machine.is_ended else ""
    return f"far {machine.far} at {machine.here}: {values}{ended}"


class Console:
    """A job, marks and a machine, which are told by lines."""

    def __init__(self):
        self._job = None
        self._marks = None
        self._machine = None
        # The values and arguments of the last start.
        self._beginning = None

    def answer(self, line):
        """Executes a line, and returns the answer."""
        word, told = told_by(line)
        if word != "load" and self._job is None:
            raise NoJob()
        if word in _MOVES and self._machine is None:
            raise NoMachine()
        if word == "load":
            return self._load(told)
        if word == "mark":
            return self._mark(told)
        if word == "safe":
            return self._safe()
        if word == "fewest":
            return self._fewest()
        if word == "start":
            return self._start(told)
        if word == "plans":
            return self._plans(told)
        return self._moved(word)

    def _load(self, text):
        """Takes the job of a text, without marks and a machine."""
        job = parse_job(text.replace("|", "\n"))
        self._job = job
        self._marks = Marks(job)
        self._machine = None
        return "ok"

    def _mark(self, places):
        """Marks some places."""
        self._marks = Marks(self._job, places)
        self._machine = None
        return "ok"

    def _safe(self):
        """Tells whether the job is safe."""
        moments = Study(self._job, self._marks).moments
        if moments is None:
            return f"unsafe with {least_failures(self._job, self._marks)} failures"
        return "safe" if len(moments) == 0 else "safe at " + decimals(moments)

    def _fewest(self):
        """Tells the cheapest marks."""
        total, marks, _ = fewest(self._job)
        return f"{total}: " + ("none" if len(marks) == 0 else decimals(marks.places))

    def _start(self, lists):
        """Makes a machine."""
        values, arguments, taken = lists
        self._machine = Machine(self._job, self._marks, values, arguments, taken)
        self._beginning = (values, arguments)
        return "ok"

    def _moved(self, word):
        """Makes moves of the machine, and tells what has become of it."""
        machine = self._machine
        if word == "step":
            machine.step()
        elif word == "fail":
            machine.fail()
        else:
            machine.finish()
        return machine_line(machine, self._job.variables)

    def _plans(self, failures):
        """Tells how many plans end wrong."""
        values, arguments = self._beginning
        wrong, total = wrong_share(self._job, self._marks, values, arguments, failures)
        return f"{decimal(wrong)} of {decimal(total)}"
