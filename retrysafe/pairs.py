"""Pairs: jobs that two runners perform at once."""

from retrysafe.checks import is_takeless_job
from retrysafe.choices import Goal
from retrysafe.duets import Duet, is_schedule
from retrysafe.errors import InvalidFar, InvalidJob, InvalidPosition, InvalidRun
from retrysafe.flows import Flow, narrowed
from retrysafe.marks import Marks, check_costs, check_marks
from retrysafe.sieves import priced_choices
from retrysafe.spaces import Space
from retrysafe.statements import is_row
from retrysafe.values import is_int, is_vector

_MOST_EXECUTIONS = 6


def check_job_for_two(job):
    """Raises the error of what is not a job that two runners may perform."""
    if not is_takeless_job(job) or len(job) > _MOST_EXECUTIONS:
        raise InvalidJob(None)


def found_wrong(flow, goal):
    """A run of both that may end and ends wrong, None if there is none."""
    _, scripts = narrowed(flow, goal, goal.choices)
    if len(scripts) == 0:
        return None
    values, arguments = scripts[0][0]
    return values, arguments, scripts[0][1:]


class Pair:
    """All runs of two runners that perform a job with marks at once."""

    def __init__(self, job, marks):
        check_job_for_two(job)
        check_marks(job, marks)
        self._duet = Duet(job, marks.places)
        self._flow = Flow(self._duet)
        self._wrong = found_wrong(self._flow, Goal(job))

    @property
    def labels(self):
        """The tuple of the labels of the vectors of runs."""
        return self._duet.tags

    @property
    def is_safe(self):
        """Tells whether all runs of both end right."""
        return self._wrong is None

    @property
    def wrong_run(self):
        """A run of both that may end and ends wrong, None if there is none."""
        return self._wrong

    def space(self, far, one, other):
        """The smallest space that contains the vectors of all runs of both at a state."""
        if not is_int(far) or not 0 <= far <= self._duet.length:
            raise InvalidFar(far)
        for position in (one, other):
            if not is_int(position) or not 0 <= position <= far:
                raise InvalidPosition(position)
        # A pair that is not safe was looked at only until a wrong run came up.
        self._flow.complete()
        return Space(self._duet.height, [tuple(vector) for vector in self._flow.vectors((far, one, other))])


def pair_outcome(job, marks, run):
    """The tuple of the durable variables' values behind a run of both."""
    check_job_for_two(job)
    check_marks(job, marks)
    if not is_run_of_both(run, job):
        raise InvalidRun(run)
    _, vector = Duet(job, marks.places).ended(run)
    return tuple(vector[:len(job.variables)])


def is_run_of_both(value, job):
    """Tells whether a value is a tuple of values, arguments and a schedule for a job."""
    if not is_row(value, 3, 3) or not is_vector(value[0], len(job.variables)):
        return False
    return is_vector(value[1], len(job.arguments)) and is_schedule(value[2], len(job))


def fewest_for_two(job, costs=None):
    """The cost and the first marks in order with which a job is safe for two runners."""
    check_job_for_two(job)
    check_costs(job, costs)
    goal = Goal(job)
    wrongs = []
    for total, places in priced_choices(job, costs):
        duet = Duet(job, places)
        if any([ends_wrong(duet, goal, run) for run in wrongs[::-1]]):
            continue
        wrong = found_wrong(Flow(duet), goal)
        if wrong is None:
            return total, Marks(job, places)
        wrongs.append(wrong)
    # With all places marked every job is safe for two runners, so this is never reached.
    return None


def ends_wrong(duet, goal, run):
    """Tells whether a run of both ends wrong; its schedule may end with whatever marks."""
    _, vector = duet.ended(run)
    return len(goal.right(duet, vector, goal.choices)) == 0
