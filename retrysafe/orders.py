"""Orders: jobs whose statements at the top are exchanged or joined with their neighbours."""

from retrysafe.checks import check_plain_job
from retrysafe.errors import InvalidIndex, TooLarge
from retrysafe.jobs import Job, writable
from retrysafe.marks import Marks
from retrysafe.sieves import Sieve, priced_choices
from retrysafe.statements import parts
from retrysafe.texts import format_job
from retrysafe.values import is_int

_MOST_INNER = 4
_MOST_IN_ORDERS = 6
_MOST_IN_FORMS = 4


def all_parts(statement):
    """The list of the `set` and `take` statements of a statement at the top."""
    steps = statement[3] if statement[0] == "repeat" else (statement,)
    return [part for step in steps for part in parts(step)]


def written_names(statement):
    """The list of the variables and locals that a statement writes."""
    return [part[1] for part in all_parts(statement)]


def read_names(statement):
    """The list of the names that the sums of a statement have."""
    return [name for part in all_parts(statement) if part[0] == "set" for _, name in part[2][2]]


def taken_parts(statement):
    """The list of the `take` statements of a statement."""
    return [part for part in all_parts(statement) if part[0] == "take"]


def may_exchange(one, other):
    """Tells whether two neighbours may be exchanged."""
    if len(taken_parts(one)) > 0 and len(taken_parts(other)) > 0:
        return False
    touched = written_names(other) + read_names(other)
    if any([name in touched for name in written_names(one)]):
        return False
    return not any([name in read_names(one) for name in written_names(other)])


def exchangeable(job):
    """The ascending tuple of the indices of statements that may be exchanged with the next one."""
    check_plain_job(job)
    steps = job.steps
    return tuple([at for at in range(len(steps) - 1) if may_exchange(steps[at], steps[at + 1])])


def exchanged(job, index):
    """The job with the statement at an index and the next one in the other order."""
    check_index(index, exchangeable(job))
    return replaced(job, index, (job.steps[index + 1], job.steps[index]))


def may_join(homes, one, other):
    """Tells whether two neighbours may be joined; the homes are the stores of the durable variables."""
    if one[0] == "repeat" or other[0] == "repeat":
        return False
    inner = parts(one) + parts(other)
    taken = [part for part in inner if part[0] == "take"]
    stores = [homes[part[1]] for part in inner if homes[part[1]] is not None]
    return len(inner) <= _MOST_INNER and len(taken) <= 1 and len(set(stores)) <= 1


def joinable(job):
    """The ascending tuple of the indices of statements that may be joined with the next one."""
    check_plain_job(job)
    steps = job.steps
    homes = writable(job.stores, job.temps)
    return tuple([at for at in range(len(steps) - 1) if may_join(homes, steps[at], steps[at + 1])])


def joined(job, index):
    """The job with the statement at an index and the next one as one `atomic`."""
    check_index(index, joinable(job))
    return replaced(job, index, (("atomic", parts(job.steps[index]) + parts(job.steps[index + 1])),))


def check_index(index, allowed):
    """Raises the error of what is not one of the allowed indices."""
    if not is_int(index) or index not in allowed:
        raise InvalidIndex(index)


def replaced(job, index, steps):
    """The job with other statements in the place of that at an index and the next one."""
    return Job(job.stores, job.arguments, job.temps, job.steps[:index] + steps + job.steps[index + 2:])


def neighbours(job, is_joining):
    """The jobs that come from a job by exchanging or, if told so, by joining two statements."""
    found = [exchanged(job, at) for at in exchangeable(job)]
    if is_joining:
        found.extend([joined(job, at) for at in joinable(job)])
    return found


def forms_of(job, is_joining):
    """The dict of all jobs that come from a job by any number of such changes, by their texts."""
    found = {format_job(job): job}
    fresh = [job]
    while len(fresh) > 0:
        behind = [other for form in fresh for other in neighbours(form, is_joining)]
        fresh = []
        for other in behind:
            text = format_job(other)
            if text not in found:
                found[text] = other
                fresh.append(other)
    return found


def check_top(job, limit):
    """Raises the errors of what is not a job that sends nothing and has at most so many statements at the top."""
    check_plain_job(job)
    if len(job.steps) > limit:
        raise TooLarge(limit)


def orders(job):
    """The list of all jobs that come from a job by exchanging, ascending by their texts."""
    check_top(job, _MOST_IN_ORDERS)
    found = forms_of(job, False)
    return [found[text] for text in sorted(list(found))]


def cheapest_form(job):
    """The cost, the job and the marks of the cheapest job that comes from a job by exchanging and joining."""
    check_top(job, _MOST_IN_FORMS)
    found = forms_of(job, True)
    ranks = sorted([(-len(found[text].steps), text) for text in found])
    runs = {len(form): [] for form in found.values()}
    # What rules out places of a form often does so in others, whose numbers of steps are the same.
    sieves = [Sieve(found[text], runs[len(found[text])]) for _, text in ranks]
    for total in range(job.places + 1):
        for sieve in sieves:
            places = sufficient(sieve, total)
            if places is not None:
                return total, sieve.subject, Marks(sieve.subject, places)
    # With all places marked every job is safe, so this is never reached.
    return None


def sufficient(sieve, total):
    """The first choice of so many places that is enough, None if there is none."""
    for price, places in priced_choices(sieve.subject, None):
        if price == total and sieve.falling(places, None) is None:
            return places
    return None
