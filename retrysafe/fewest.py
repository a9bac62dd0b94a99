"""The cheapest marks."""

from retrysafe.checks import check_failures, check_plain_job, is_run
from retrysafe.choices import Goal
from retrysafe.errors import InvalidMarks, InvalidRun
from retrysafe.layouts import Layout
from retrysafe.marks import Marks, check_costs, check_marks
from retrysafe.refutations import remaining
from retrysafe.sieves import Sieve, priced_choices
from retrysafe.studies import Study


def fewest(job, costs=None, failures=None):
    """The cost, the first marks in order with which a job is safe, and runs that rule out all ahead of them."""
    check_plain_job(job)
    check_costs(job, costs)
    check_failures(failures)
    sieve = Sieve(job, [])
    for total, places in priced_choices(job, costs):
        if sieve.falling(places, failures) is None:
            return total, Marks(job, places), tuple(sieve.runs)
    # With all places marked every job is safe, so this is never reached.
    return None


def check_runs(job, runs):
    """Raises the error of what is not a tuple of runs."""
    if not isinstance(runs, tuple):
        raise InvalidRun(runs)
    for run in runs:
        if not is_run(run, job):
            raise InvalidRun(run)


def shows_fewest(job, marks, runs, costs=None):
    """Tells whether runs rule out all choices of places ahead of marks."""
    check_plain_job(job)
    check_marks(job, marks)
    check_runs(job, runs)
    check_costs(job, costs)
    goal = Goal(job)
    for _, places in priced_choices(job, costs):
        if places == marks.places:
            break
        if len(remaining(goal, Layout(job, places), runs, goal.choices)) > 0:
            return False
    return True


def prices(job, costs=None):
    """The costs of the cheapest marks against 0, 1, 2 .. failures, up to that against any number."""
    total = fewest(job, costs)[0]
    sieve = Sieve(job, [])
    found = []
    for price, places in priced_choices(job, costs):
        if price == total:
            break
        # No run that is known has more failures than the number whose price is looked for, so places that fall later
        # are safe against all lower numbers.
        found.extend([price] * (sieve.falling(places, None) - len(found)))
    return found + [total]


def purposes(job, marks):
    """For each marked place the runs that go wrong without this mark, or None if the job is safe without it."""
    if not Study(job, marks).is_safe:
        raise InvalidMarks(marks)
    found = []
    for place in marks.places:
        study = Study(job, marks - Marks(job, (place,)))
        found.append(None if study.is_safe else study.wrong_runs)
    return tuple(found)
