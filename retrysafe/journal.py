"""Journals: what a machine writes about its run, so that it can go on when all else is lost."""

from retrysafe.errors import AtEnd, InvalidText, Started
from retrysafe.machine import Machine, machine_of, run_of
from retrysafe.records import Record


class Journal:
    """A machine, and the text about the executions that it performed."""

    def __init__(self, machine):
        if machine.failures > 0 or machine.here > 0:
            raise Started(machine.here)
        marks, run = run_of(machine)
        self._log = Record(marks, run)

    def step(self):
        """Performs one execution or passes it over, and returns the move."""
        run = self._log.run
        if run.is_through():
            raise AtEnd(run.spot)
        return self._log.step()

    def fail(self):
        """Begins a new attempt."""
        self._log.fail()

    def finish(self):
        """Makes steps up to the end."""
        # What meets an error in a copy has changed nothing here.
        ahead = self._log.copy()
        while not ahead.run.is_through():
            ahead.step()
        self._log = ahead

    def machine(self):
        """A copy of the machine."""
        return machine_of(self._log.marked, self._log.run.copy())

    def text(self):
        """What was written so far."""
        return "".join([line + "\n" for line in self._log.written])


def recover(job, marks, values, arguments, text, taken=()):
    """The machine that goes on from the last whole line of a text."""
    return resume(job, marks, values, arguments, text, taken).machine()


def resume(job, marks, values, arguments, text, taken=()):
    """The journal that goes on from the last whole line of a text."""
    found = Journal(Machine(job, marks, values, arguments, taken))
    if not isinstance(text, str):
        raise InvalidText(text)
    found._log.follow(text)
    found._log.go_on(taken)
    return found
