"""Ledgers: what happens to messages with ids, and which ids may be forgotten."""

from retrysafe.errors import (
    ClosedRun, DuplicateRun, InvalidName, InvalidNumber, NoCopy, NotKept, StillNeeded, UnknownRun)
from retrysafe.values import is_int, is_name

_MOST_NUMBER = 99


def check_name(run):
    """Raises the error of what is not the name of a run."""
    if not is_name(run):
        raise InvalidName(run)


def check_message(run, number):
    """Raises the errors of what is not a name of a run and a number of a message."""
    check_name(run)
    if not is_int(number) or not 0 <= number <= _MOST_NUMBER:
        raise InvalidNumber(number)


class Ledger:
    """The runs of senders, the copies of messages under way, and the ids that the receiver keeps."""

    def __init__(self):
        # For each run that was begun whether it is closed.
        self._closed = {}
        # The numbers of copies under way by the ids of messages, none of them 0.
        self._copies = {}
        # The ids that are kept, each with True.
        self._ids = {}

    def begin(self, run):
        """A run of a sender begins."""
        check_name(run)
        if run in self._closed:
            raise DuplicateRun(run)
        self._closed[run] = False

    def send(self, run, number):
        """A run sends one of its messages, for the first time or once more."""
        check_message(run, number)
        self._check_open(run)
        self._copies[run, number] = self._copies.get((run, number), 0) + 1

    def close(self, run):
        """A run has ended for good."""
        check_name(run)
        self._check_open(run)
        self._closed[run] = True

    def arrive(self, run, number):
        """A copy arrives; tells whether the receiver performs it."""
        self._land(run, number)
        if (run, number) in self._ids:
            return False
        self._ids[run, number] = True
        return True

    def lose(self, run, number):
        """A copy is lost."""
        self._land(run, number)

    def forget(self, run, number):
        """The receiver keeps an id no longer."""
        if self.danger(run, number) is not None:
            raise StillNeeded(run, number)
        del self._ids[run, number]

    def forgettable(self):
        """The ascending list of the ids that may be forgotten."""
        return [(run, number) for run, number in self.kept() if self.danger(run, number) is None]

    def kept(self):
        """The ascending list of the ids that are kept."""
        return sorted(list(self._ids))

    def danger(self, run, number):
        """The shortest list of events that let a message be performed again, were its id forgotten now, or None."""
        check_message(run, number)
        self._check_begun(run)
        if (run, number) not in self._ids:
            raise NotKept(run, number)
        if (run, number) in self._copies:
            return [("arrive", run, number)]
        if not self._closed[run]:
            return [("send", run, number), ("arrive", run, number)]
        return None

    def __eq__(self, other):
        return (isinstance(other, Ledger) and self._closed == other._closed and self._copies == other._copies
                and self._ids == other._ids)

    def _check_begun(self, run):
        """Raises the error of a run that was not begun."""
        if run not in self._closed:
            raise UnknownRun(run)

    def _check_open(self, run):
        """Raises the errors of a run that was not begun or is closed."""
        self._check_begun(run)
        if self._closed[run]:
            raise ClosedRun(run)

    def _land(self, run, number):
        """Takes away a copy that is under way."""
        check_message(run, number)
        self._check_begun(run)
        if (run, number) not in self._copies:
            raise NoCopy(run, number)
        self._copies[run, number] -= 1
        if self._copies[run, number] == 0:
            del self._copies[run, number]
