"""Campaigns: all plans of failures at once."""

from retrysafe.branches import Branches
from retrysafe.checks import check_limit, check_numbers, check_plain_job, check_takeless_job
from retrysafe.layouts import Layout
from retrysafe.marks import check_marks
from retrysafe.meanings import plain_run
from retrysafe.studies import Study


def plans(job, failures):
    """All plans with at most so many failures, by their length, then in order."""
    check_plain_job(job)
    check_limit(failures)
    for many in range(failures + 1):
        plan = (0,) * many
        while plan is not None:
            yield plan
            plan = plan_behind(plan, len(job))


def plan_behind(plan, most):
    """The next plan of the same length, whose positions are at most this one; None behind the last one."""
    at = len(plan) - 1
    while at >= 0 and plan[at] == most:
        at -= 1
    if at < 0:
        return None
    return plan[:at] + (plan[at] + 1,) + (0,) * (len(plan) - at - 1)


def check_campaign(job, marks, values, arguments, failures):
    """Raises the errors of the arguments of a campaign."""
    check_takeless_job(job)
    check_marks(job, marks)
    check_numbers(job, values, arguments)
    check_limit(failures)


def plan_count(job, failures):
    """How many plans with at most so many failures there are."""
    found = 1
    for _ in range(failures):
        found = found * (len(job) + 1) + 1
    return found


def endings(job, marks, values, arguments, failures):
    """The dict from the durable variables' values at the end to the number of plans that end so."""
    check_campaign(job, marks, values, arguments, failures)
    # Between the failures of a safe job there may be more states than can be looked at.
    if Study(job, marks, failures).is_safe:
        return {plain_run(job, values, arguments, ()): plan_count(job, failures)}
    layout = Layout(job, marks.places)
    return Branches(layout, layout.start(values, arguments)).counted_ends(failures)


def wrong_share(job, marks, values, arguments, failures):
    """The number of plans that end otherwise than a run without failure, and that of all plans."""
    found = endings(job, marks, values, arguments, failures)
    total = plan_count(job, failures)
    return total - found.get(plain_run(job, values, arguments, ()), 0), total
