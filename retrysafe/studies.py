"""Studies: what holds in all runs of a job with marks."""

from retrysafe.bases import complement
from retrysafe.checks import check_failures, check_plain_job, is_run
from retrysafe.choices import Goal
from retrysafe.errors import InvalidFar, InvalidPosition, InvalidRun
from retrysafe.layouts import Layout, states
from retrysafe.marks import check_marks
from retrysafe.refutations import end_vector, ruling_out
from retrysafe.searches import Search, begun_runs, is_complete, settled
from retrysafe.spaces import Space
from retrysafe.values import is_int


class Study:
    """All runs of a job with marks, or those with at most so many failures."""

    def __init__(self, job, marks, failures=None):
        check_plain_job(job)
        check_marks(job, marks)
        check_failures(failures)
        goal = Goal(job)
        layout = Layout(job, marks.places)
        self._most = failures
        self._layout = layout
        self._search = Search(layout, begun_runs(layout))
        alive, origins = settled(self._search, goal, goal.choices, failures)
        self._moments = alive[0] if len(alive) > 0 else None
        self._wrong = () if len(alive) > 0 else tuple(ruling_out(goal, layout, goal.choices, origins))

    @property
    def labels(self):
        """The tuple of the labels of the vectors of runs."""
        return self._layout.tags

    @property
    def is_safe(self):
        """Tells whether all these runs end right for one choice of moments."""
        return self._moments is not None

    @property
    def moments(self):
        """The first choice of moments for which all these runs end right, or None."""
        return self._moments

    @property
    def wrong_runs(self):
        """Some of these runs that do not all end right for any choice of moments; none if the job is safe."""
        return self._wrong

    def space(self, far, position):
        """The smallest space that contains the vectors of these runs at a state."""
        return Space(self._layout.size, [tuple(vector) for vector in self._vectors(far, position)])

    def equations(self, far, position):
        """The equations that hold for the vectors of these runs at a state."""
        return complement(self._vectors(far, position), self._layout.size)

    def all_states(self):
        """The list of the states of these runs, in order."""
        return states(self._layout.length)

    def is_limited(self):
        """Tells whether these are only the runs with at most so many failures."""
        return self._most is not None

    def _vectors(self, far, position):
        """Vectors whose sums of multiples are the space of a state."""
        if not is_int(far) or not 0 <= far <= self._layout.length:
            raise InvalidFar(far)
        if not is_int(position) or not 0 <= position <= far:
            raise InvalidPosition(position)
        # An unsafe job was looked at only until no choice of moments was left.
        while not is_complete(self._search, self._most):
            self._search.advance()
        return self._search.vectors(far, position)


def right_choices(job, marks, run):
    """The list of the choices of moments for which a run ends right."""
    check_plain_job(job)
    check_marks(job, marks)
    if not is_run(run, job):
        raise InvalidRun(run)
    goal = Goal(job)
    layout = Layout(job, marks.places)
    return list(goal.right(layout, end_vector(layout, run), goal.choices))


def least_failures(job, marks):
    """The least number of failures against which a job is not safe, None if it is safe."""
    check_plain_job(job)
    check_marks(job, marks)
    goal = Goal(job)
    layout = Layout(job, marks.places)
    search = Search(layout, begun_runs(layout))
    alive, _ = settled(search, goal, goal.choices, None)
    return search.level if len(alive) == 0 else None


def harmful(job, marks):
    """The positions at which a single failure can already end wrong."""
    check_plain_job(job)
    check_marks(job, marks)
    goal = Goal(job)
    layout = Layout(job, marks.places)
    return tuple([position for position in range(len(job) + 1) if is_harmful(goal, layout, position)])


def is_harmful(goal, layout, position):
    """Tells whether no choice of moments is right for all runs with a single failure, at a position."""
    alive = goal.choices
    for vector in ends_of(layout, position):
        alive = goal.right(layout, vector, alive)
    return len(alive) == 0


def ends_of(layout, position):
    """Vectors whose sums of multiples are those of all ends of runs with a single failure, at a position."""
    found = [layout.start(values, arguments) for values, arguments in layout.starts()]
    for e in range(position):
        found = layout.moved(e, e, found)
    found = [layout.dropped(vector) for vector in found]
    for e in range(layout.length):
        found = layout.moved(e, max(e, position), found)
    return found
