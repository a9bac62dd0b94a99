"""The cheapest marks."""

from retrysafe.checks import check_failures, check_plain_job, is_run
from retrysafe.choices import Goal
from retrysafe.errors import InvalidMarks, InvalidRun
from retrysafe.layouts import Layout
from retrysafe.marks import Marks, check_costs, check_marks, total_cost
from retrysafe.refutations import remaining, ruling_out
from retrysafe.searches import Search, settled
from retrysafe.studies import Study


def priced_choices(job, costs):
    """The pairs (cost, places) of all choices of places, in order."""
    found = [()]
    for place in range(job.places):
        found = found + [places + (place,) for places in found]
    return sorted([(total_cost(places, costs), places) for places in found])


def fewest(job, costs=None, failures=None):
    """The cost, the first marks in order with which a job is safe, and runs that rule out all ahead of them."""
    check_plain_job(job)
    check_costs(job, costs)
    check_failures(failures)
    goal = Goal(job)
    runs = []
    for total, places in priced_choices(job, costs):
        layout = Layout(job, places)
        # What ruled out the last places rules out the next ones most often.
        alive = remaining(goal, layout, runs[::-1], goal.choices)
        rest, origins = settled(Search(layout), goal, alive, failures)
        if len(rest) > 0:
            return total, Marks(job, places), tuple(runs)
        runs.extend(ruling_out(goal, layout, alive, origins))
    # With all places marked every job is safe, so this is never reached.
    return None


def check_runs(job, runs):
    """Raises the error of what is not a tuple of runs."""
    if not isinstance(runs, tuple):
        raise InvalidRun(runs)
    for run in runs:
        if not is_run(run, job):
            raise InvalidRun(run)


def shows_fewest(job, marks, runs, costs=None):
    """Tells whether runs rule out all choices of places ahead of marks."""
    check_plain_job(job)
    check_marks(job, marks)
    check_runs(job, runs)
    check_costs(job, costs)
    goal = Goal(job)
    for _, places in priced_choices(job, costs):
        if places == marks.places:
            break
        if len(remaining(goal, Layout(job, places), runs, goal.choices)) > 0:
            return False
    return True


def prices(job, costs=None):
    """The costs of the cheapest marks against 0, 1, 2 .. failures, up to that against any number."""
    total = fewest(job, costs)[0]
    goal = Goal(job)
    runs = []
    found = []
    for price, places in priced_choices(job, costs):
        if price == total:
            break
        layout = Layout(job, places)
        # No run that is known has more failures than the number whose price is looked for.
        alive = remaining(goal, layout, runs[::-1], goal.choices)
        search = Search(layout)
        _, origins = settled(search, goal, alive, None)
        # These places are safe against all numbers of failures below the level.
        found.extend([price] * (search.level - len(found)))
        runs.extend(ruling_out(goal, layout, alive, origins))
    return found + [total]


def purposes(job, marks):
    """For each marked place the runs that go wrong without this mark, or None if the job is safe without it."""
    if not Study(job, marks).is_safe:
        raise InvalidMarks(marks)
    found = []
    for place in marks.places:
        study = Study(job, marks - Marks(job, (place,)))
        found.append(None if study.is_safe else study.wrong_runs)
    return tuple(found)
