"""Machines: runs that are made move by move."""

from retrysafe.checks import check_numbers, check_plain_job, check_plan, check_taken
from retrysafe.errors import AtEnd, InvalidCount
from retrysafe.layouts import Layout
from retrysafe.marks import check_marks
from retrysafe.runs import begun, state_of
from retrysafe.values import is_int


class Failing:
    """A context manager: within its block a machine fails by itself at these positions."""

    def __init__(self, machine, positions):
        self._machine = machine
        self._positions = positions
        self._outer = ()

    def __enter__(self):
        machine = self._machine
        self._outer = machine._left
        machine._left = self._positions
        return machine

    def __exit__(self, kind, value, trace):
        machine = self._machine
        machine._left = self._outer


class Machine:
    """A run of a job with marks that performs one move behind the other."""

    def __init__(self, job, marks, values, arguments, taken=()):
        check_plain_job(job)
        check_marks(job, marks)
        check_numbers(job, values, arguments)
        check_taken(taken)
        self._marks = marks
        self._run = begun(Layout(job, marks.places), values, arguments, taken)
        # The positions at which attempts will fail by themselves.
        self._left = ()

    @property
    def durable(self):
        """The tuple of the values of the durable variables."""
        return tuple(self._run.vector[:self._run.layout.many])

    @property
    def temps(self):
        """The tuple of the values of the locals."""
        return tuple([self._run.vector[at] for at, _ in self._run.layout.dropping])

    @property
    def here(self):
        """The position of the attempt."""
        return self._run.spot

    @property
    def far(self):
        """The greatest position that any attempt has had."""
        return self._run.reach

    @property
    def failures(self):
        """How many failures there were."""
        return len(self._run.failed)

    @property
    def plan(self):
        """The tuple of the positions of the failures."""
        return tuple(self._run.failed)

    @property
    def taken_count(self):
        """How many values were taken."""
        return self._run.used

    @property
    def is_ended(self):
        """Tells whether the attempt is at its end."""
        return self._run.spot == self._run.layout.length

    def step(self):
        """Performs one execution or passes it over, or fails by itself, and returns the move."""
        if self._is_due():
            self._left = self._left[1:]
            return self._run.fail()
        if self._run.is_through():
            raise AtEnd(self._run.spot)
        return self._run.step()

    def fail(self):
        """Begins a new attempt."""
        self._run.fail()

    def finish(self):
        """Makes steps up to the end."""
        ahead = self._ahead()
        while ahead._can_step():
            ahead.step()
        self._become(ahead)

    def __irshift__(self, other):
        if not is_int(other) or other < 0:
            raise InvalidCount(other)
        ahead = self._ahead()
        while other > 0 and ahead._can_step():
            ahead.step()
            other -= 1
        self._become(ahead)
        return self

    def copy(self):
        """An equal, independent machine, which does not fail by itself."""
        return machine_of(self._marks, self._run.copy())

    def failing(self, positions):
        """A context manager for a block in which the attempts fail by themselves at these positions."""
        check_plan(self._marks.job, positions)
        return Failing(self, positions)

    def trial(self, positions):
        """A copy that was run to its end while it failed by itself at these positions."""
        tried = self.copy()
        with tried.failing(positions):
            tried.finish()
        return tried

    def __eq__(self, other):
        return (isinstance(other, Machine) and self._marks == other._marks
                and state_of(self._run) == state_of(other._run))

    def _is_due(self):
        """Tells whether the next step is a failure."""
        return len(self._left) > 0 and self._left[0] == self._run.spot

    def _can_step(self):
        """Tells whether there is a next step."""
        return self._is_due() or not self._run.is_through()

    def _ahead(self):
        """A copy that fails by itself as this one does: what meets an error there has changed nothing here."""
        found = self.copy()
        found._left = self._left
        return found

    def _become(self, ahead):
        """Takes over what a copy did."""
        self._run = ahead._run
        self._left = ahead._left


def machine_of(marks, run):
    """A machine that goes on with a run of a job with marks."""
    found = Machine(marks.job, marks, run.first_values(), run.given_values())
    found._run = run
    return found


def run_of(machine):
    """The marks of a machine, and a copy of its run."""
    return machine._marks, machine._run.copy()
