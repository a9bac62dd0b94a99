"""Runs with failures, followed move by move."""

from retrysafe.checks import check_numbers, check_plain_job, check_plan, check_taken
from retrysafe.errors import NoValue
from retrysafe.layouts import Layout, apply
from retrysafe.marks import check_marks


class Run:
    """A run under way: the vector of its layout, the taken values, the position, far, and the plan so far."""

    def __init__(self, layout, vector, taken):
        self.layout = layout
        self.vector = vector
        self.taken = taken
        self.used = 0
        self.spot = 0
        self.reach = 0
        self.failed = []

    def durable_values(self):
        """The tuple of the durable variables' values."""
        return tuple(self.vector[:self.layout.many])

    def local_values(self):
        """The tuple of the locals' values."""
        return tuple([self.vector[at] for at, _ in self.layout.dropping])

    def first_values(self):
        """The tuple of the durable variables' values at the beginning."""
        many = self.layout.many
        return tuple(self.vector[many:2 * many])

    def given_values(self):
        """The tuple of the arguments' values."""
        begin = 2 * self.layout.many
        return tuple(self.vector[begin:begin + self.layout.extra])

    def seen_values(self):
        """The tuple with the tuple of the values seen for each execution that takes."""
        spots = self.layout.spots
        rows = [[self.vector[spots["seen", e, moment]] for moment in range(e, self.layout.length)]
                for e in self.layout.takers]
        return tuple([tuple(row) for row in rows])

    def is_through(self):
        """Tells whether the attempt is at its end."""
        return self.spot == self.layout.length

    def step(self):
        """Performs one execution or passes it over, and returns the move."""
        e = self.spot
        layout = self.layout
        taken = 0
        if layout.taker_at(e, self.reach):
            if self.used == len(self.taken):
                raise NoValue(e)
            taken = self.taken[self.used]
            self.used += 1
        over = layout.is_passed(e, self.reach)
        apply(layout.program(e, self.reach), self.vector, taken)
        self.spot = e + 1
        self.reach = max(self.reach, self.spot)
        return ("pass", e) if over else ("do", e, self.durable_values())

    def fail(self):
        """Begins a new attempt, and returns the move."""
        position = self.spot
        self.failed.append(position)
        apply(self.layout.dropping, self.vector, 0)
        self.spot = 0
        return ("fail", position)

    def follow(self, plan):
        """Makes all moves of a plan and of the last attempt."""
        self.fall(plan)
        while not self.is_through():
            self.step()

    def fall(self, plan):
        """Makes all moves of a plan, up to its last failure."""
        for position in plan:
            while self.spot < position:
                self.step()
            self.fail()

    def copy(self):
        """An equal, independent run."""
        found = Run(self.layout, list(self.vector), self.taken)
        found.used = self.used
        found.spot = self.spot
        found.reach = self.reach
        found.failed = list(self.failed)
        return found


def state_of(run):
    """All that tells apart two runs of a job with the same marks."""
    return tuple(run.vector), run.taken, run.used, run.spot, run.reach, tuple(run.failed)


def begun(layout, values, arguments, taken):
    """A run ahead of its first move."""
    return Run(layout, layout.start(values, arguments), taken)


def check_run(job, marks, values, arguments, plan, taken):
    """Raises the errors of the arguments of a run."""
    check_plain_job(job)
    check_marks(job, marks)
    check_numbers(job, values, arguments)
    check_plan(job, plan)
    check_taken(taken)


def outcome(job, marks, values, arguments, plan, taken):
    """The end of a run: the durable variables' values and the values seen."""
    check_run(job, marks, values, arguments, plan, taken)
    run = begun(Layout(job, marks.places), values, arguments, taken)
    run.follow(plan)
    return run.durable_values(), run.seen_values()


def attempts(job, marks, values, arguments, plan, taken):
    """All moves of a run, in order."""
    check_run(job, marks, values, arguments, plan, taken)
    run = begun(Layout(job, marks.places), values, arguments, taken)
    for position in plan:
        while run.spot < position:
            yield run.step()
        yield run.fail()
    while not run.is_through():
        yield run.step()
