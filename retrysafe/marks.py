"""Marks: places of a job whose steps are not performed a second time."""

from retrysafe.errors import InvalidCosts, InvalidFar, InvalidJob, InvalidMarks
from retrysafe.jobs import Job
from retrysafe.layouts import is_passed, limits
from retrysafe.values import is_int, is_vector

_MOST_COST = 100


def are_places(value, job):
    """Tells whether a value is a list or tuple of different places of a job."""
    if not isinstance(value, (list, tuple)):
        return False
    if not all([is_int(place) and 0 <= place < job.places for place in value]):
        return False
    return len(set(value)) == len(value)


def are_marks(value, job):
    """Tells whether a value is marks of an equal job."""
    return isinstance(value, Marks) and value.job == job


def check_marks(job, marks):
    """Raises the error of what is not marks of an equal job."""
    if not are_marks(marks, job):
        raise InvalidMarks(marks)


class Marks:
    """A set of places of a job."""

    def __init__(self, job, places=()):
        if not isinstance(job, Job):
            raise InvalidJob(None)
        if not are_places(places, job):
            raise InvalidMarks(places)
        self._job = job
        self._places = tuple(sorted(places))

    @property
    def job(self):
        """The job."""
        return self._job

    @property
    def places(self):
        """The ascending tuple of the places."""
        return self._places

    def __contains__(self, place):
        return is_int(place) and place in self._places

    def __len__(self):
        return len(self._places)

    def __iter__(self):
        return iter(self._places)

    def __or__(self, other):
        check_marks(self._job, other)
        return Marks(self._job, self._places + tuple([place for place in other.places if place not in self._places]))

    def __and__(self, other):
        check_marks(self._job, other)
        return Marks(self._job, tuple([place for place in self._places if place in other.places]))

    def __sub__(self, other):
        check_marks(self._job, other)
        return Marks(self._job, tuple([place for place in self._places if place not in other.places]))

    def is_within(self, other):
        """Tells whether all these places are among those of the other marks."""
        check_marks(self._job, other)
        return all([place in other.places for place in self._places])

    def __eq__(self, other):
        return isinstance(other, Marks) and self._job == other._job and self._places == other._places


def passed(job, marks, far):
    """The tuple of the executions that are passed over while far is this number."""
    check_marks(job, marks)
    if not is_int(far) or not 0 <= far <= len(job):
        raise InvalidFar(far)
    return tuple([e for e, limit in enumerate(limits(job, marks.places)) if is_passed(limit, far)])


def are_costs(value, job):
    """Tells whether a value is None or a tuple with a cost for each place of a job."""
    if value is None:
        return True
    return is_vector(value, job.places) and all([1 <= price <= _MOST_COST for price in value])


def check_costs(job, costs):
    """Raises the error of what are not costs of the places of a job."""
    if not are_costs(costs, job):
        raise InvalidCosts(costs)


def total_cost(places, costs):
    """The sum of the costs of some places."""
    if costs is None:
        return len(places)
    return sum([costs[place] for place in places])


def cost(marks, costs=None):
    """The sum of the costs of the marked places."""
    if not isinstance(marks, Marks):
        raise InvalidMarks(marks)
    check_costs(marks.job, costs)
    return total_cost(marks.places, costs)
