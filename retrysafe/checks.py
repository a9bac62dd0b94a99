"""Checks of arguments: what several functions raise for them."""

from retrysafe.errors import InvalidArguments, InvalidCount, InvalidJob, InvalidPlan, InvalidTaken, InvalidValues
from retrysafe.jobs import Job
from retrysafe.layouts import taking
from retrysafe.statements import is_row, sends
from retrysafe.values import is_int, is_vector

_MOST_FAILURES = 60


def is_plain_job(value):
    """Tells whether a value is a job that sends nothing."""
    return isinstance(value, Job) and not any([sends(value.statement(place)) for place, _ in value.executions])


def check_plain_job(job):
    """Raises the error of what is not a job that sends nothing."""
    if not is_plain_job(job):
        raise InvalidJob(None)


def check_numbers(job, values, arguments):
    """Raises the errors of values and arguments that do not fit a job."""
    if not is_vector(values, len(job.variables)):
        raise InvalidValues(values)
    if not is_vector(arguments, len(job.arguments)):
        raise InvalidArguments(arguments)


def is_plan(value, job):
    """Tells whether a value is a tuple of positions of a job."""
    if not isinstance(value, tuple):
        return False
    return all([is_int(position) and 0 <= position <= len(job) for position in value])


def check_plan(job, plan):
    """Raises the error of what is not a plan."""
    if not is_plan(plan, job):
        raise InvalidPlan(plan)


def are_integers(value):
    """Tells whether a value is a tuple of integers."""
    return isinstance(value, tuple) and is_vector(value, len(value))


def check_taken(taken):
    """Raises the error of what is not a tuple of integers."""
    if not are_integers(taken):
        raise InvalidTaken(taken)


def is_run(value, job):
    """Tells whether a value is a tuple of values, arguments, a plan and taken values of a job."""
    if not is_row(value, 4, 4):
        return False
    values, arguments, plan, taken = value
    if not is_vector(values, len(job.variables)) or not is_vector(arguments, len(job.arguments)):
        return False
    return is_plan(plan, job) and are_integers(taken)


def check_failures(count):
    """Raises the error of what is neither a number of failures nor None."""
    if count is not None:
        check_limit(count)


def check_limit(count):
    """Raises the error of what is not a number of failures."""
    if not is_int(count) or not 0 <= count <= _MOST_FAILURES:
        raise InvalidCount(count)


def is_takeless_job(value):
    """Tells whether a value is a job that takes and sends nothing."""
    return is_plain_job(value) and len(taking(value)) == 0


def check_takeless_job(job):
    """Raises the error of what is not a job that takes and sends nothing."""
    if not is_takeless_job(job):
        raise InvalidJob(None)
