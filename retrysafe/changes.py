"""Changes: jobs that are changed while runs of them are under way."""

from retrysafe.checks import check_takeless_job, is_plan, is_takeless_job
from retrysafe.choices import Goal
from retrysafe.errors import InvalidFar, InvalidJob, InvalidPlaces, InvalidRun, InvalidWord
from retrysafe.handovers import Handover, Past, performed_at
from retrysafe.marks import Marks, check_costs, check_marks
from retrysafe.sieves import priced_choices
from retrysafe.statements import is_row
from retrysafe.values import is_int, is_vector

_WORDS = ("old", "new")


def are_changed_jobs(old, new):
    """Tells whether two values are jobs of which one may be changed to the other."""
    if not is_takeless_job(old) or not is_takeless_job(new):
        return False
    return old.stores == new.stores and old.arguments == new.arguments


def are_sources(value, old, new):
    """Tells whether a value tells for each place of a new job the place of an old one from which it takes over."""
    if not is_row(value, new.places, new.places):
        return False
    told = [place for place in value if place is not None]
    if not all([is_int(place) and 0 <= place < old.places for place in told]) or len(set(told)) < len(told):
        return False
    return all([source is None or are_alike(new, place, old, source) for place, source in enumerate(value)])


def are_alike(new, place, old, source):
    """Tells whether a place of a new job may take over from a place of an old one."""
    one, other = new.statement(place), old.statement(source)
    if one[0] == "repeat" or other[0] == "repeat":
        return one[0] == other[0] and len(one[2]) == len(other[2])
    return len(performed_at(new, place)) == len(performed_at(old, source))


class Change:
    """A change of an old job with marks to a new one, some of whose places take over flags."""

    def __init__(self, old, old_marks, new, new_marks, places):
        if not are_changed_jobs(old, new):
            raise InvalidJob(None)
        check_marks(old, old_marks)
        check_marks(new, new_marks)
        if not are_sources(places, old, new):
            raise InvalidPlaces(places)
        self._goals = {"old": Goal(old), "new": Goal(new)}
        self._handover = Handover(Past(old, old_marks.places), new, new_marks.places, places)

    def ends(self, far):
        """The tuple of the jobs, told by words, as whose runs without failure all runs that are changed then end."""
        self._check_far(far)
        return tuple([word for word in _WORDS if self.find_wrong(far, word) is None])

    def find_wrong(self, far, word):
        """A run, changed with this far, that ends otherwise than a run of a job, told by its word; or None."""
        self._check_far(far)
        if not isinstance(word, str) or word not in _WORDS:
            raise InvalidWord(word)
        return self._handover.first_wrong(far, self._goals[word])

    def outcome(self, run):
        """The tuple of the durable variables' values at the end of a changed run."""
        if not self._is_run(run):
            raise InvalidRun(run)
        return self._handover.ended(run).durable_values()

    def _check_far(self, far):
        """Raises the error of what is not a far of the old job."""
        if not is_int(far) or not 0 <= far <= len(self._handover.past.subject):
            raise InvalidFar(far)

    def _is_run(self, value):
        """Tells whether a value is a tuple of values, arguments, a plan of the old job and one of the new job."""
        old, new = self._handover.past.subject, self._handover.subject
        if not is_row(value, 4, 4):
            return False
        if not is_vector(value[0], len(old.variables)) or not is_vector(value[1], len(old.arguments)):
            return False
        return is_plan(value[2], old) and is_plan(value[3], new)


def repaired(job, marks, costs=None):
    """The cost and the first marks to which those of a job may be changed at every far; None if there are none."""
    check_takeless_job(job)
    check_marks(job, marks)
    check_costs(job, costs)
    goal = Goal(job)
    past = Past(job, marks.places)
    wrongs = []
    for total, places in priced_choices(job, costs):
        handover = Handover(past, job, places, tuple(range(job.places)))
        # What went wrong with other marks often does so with these.
        if any([is_wrong(handover, goal, run) for run in wrongs[::-1]]):
            continue
        wrong = any_wrong(handover, goal)
        if wrong is None:
            return total, Marks(job, places)
        wrongs.append(wrong)
    return None


def is_wrong(handover, goal, run):
    """Tells whether a changed run ends otherwise than a goal tells."""
    ended = handover.ended(run)
    return len(goal.right(ended.layout, ended.vector, goal.choices)) == 0


def any_wrong(handover, goal):
    """A changed run that ends otherwise than a goal tells, None if there is none."""
    for far in range(len(handover.subject) + 1):
        wrong = handover.first_wrong(far, goal)
        if wrong is not None:
            return wrong
    return None
