"""Safe papers: equations which show, step by step, that all runs of a job with marks end right."""

from retrysafe.bases import dot
from retrysafe.checks import check_plain_job
from retrysafe.choices import Goal, is_choice
from retrysafe.echelons import Echelon
from retrysafe.errors import InvalidStudy
from retrysafe.layouts import Layout, pulled, states
from retrysafe.marks import check_marks
from retrysafe.statements import is_row
from retrysafe.studies import Study
from retrysafe.values import is_vector


def safe_paper(study):
    """The paper of a safe study without a limit of failures: its moments, and the equations at each state."""
    if not isinstance(study, Study) or not study.is_safe or study.is_limited():
        raise InvalidStudy(study)
    return study.moments, tuple([study.equations(far, position) for far, position in study.all_states()])


def is_safe_paper(job, marks, candidate):
    """Tells whether an object is a paper which shows that a job with marks is safe."""
    check_plain_job(job)
    check_marks(job, marks)
    layout = Layout(job, marks.places)
    if not is_paper(candidate, job, layout):
        return False
    moments, rows = candidate
    told = {state: forms for state, forms in zip(states(layout.length), rows)}
    spans = {state: span_of(told[state], layout.size) for state in told}
    return (begins_right(layout, told[0, 0]) and all([moves_right(layout, told, spans, state) for state in told])
            and ends_right(Goal(job), layout, moments, spans))


def is_paper(value, job, layout):
    """Tells whether a value is a pair of a choice of moments and a row of vectors for each state."""
    if not is_row(value, 2, 2) or not is_choice(value[0], job):
        return False
    many = len(states(layout.length))
    return is_row(value[1], many, many) and all([is_forms(forms, layout.size) for forms in value[1]])


def is_forms(value, size):
    """Tells whether a value is a tuple of vectors of this width."""
    return isinstance(value, tuple) and all([is_vector(form, size) for form in value])


def span_of(forms, size):
    """All sums of multiples of some equations."""
    found = Echelon(list(range(size)))
    for form in forms:
        found.grow(form)
    return found


def begins_right(layout, forms):
    """Tells whether equations hold ahead of the first move of each run."""
    starts = [layout.start(values, arguments) for values, arguments in layout.starts()]
    return all([dot(form, start) == 0 for form in forms for start in starts])


def moves_right(layout, told, spans, state):
    """Tells whether the equations behind each move from a state follow from those ahead of it."""
    for target, program, taken in moves_from(layout, state):
        for form in told[target]:
            if not spans[state].has(pulled(program, form, taken)):
                return False
    return True


def moves_from(layout, state):
    """The moves from a state: the state behind it, the program, and the taken value."""
    far, position = state
    found = [((far, 0), layout.dropping, 0)]
    if position < layout.length:
        target = (max(far, position + 1), position + 1)
        found.append((target, layout.program(position, far), 0))
        if layout.taker_at(position, far):
            found.append((target, layout.program(position, far), 1))
    return found


def ends_right(goal, layout, moments, spans):
    """Tells whether it follows from the equations at the end that the run ends right."""
    span = spans[layout.length, layout.length]
    return all([span.has(form) for form in goal.forms(layout, moments)])
