"""Networks: jobs that send messages to each other."""

from retrysafe.choices import Goal
from retrysafe.errors import InvalidMarks, InvalidNetwork, UnknownJob
from retrysafe.flows import Flow, narrowed, unrefuted
from retrysafe.jobs import Job
from retrysafe.layouts import Layout, apply, taking
from retrysafe.marks import Marks, are_marks
from retrysafe.meanings import Matrix
from retrysafe.scenes import Scene, matrices_of
from retrysafe.sieves import priced_choices
from retrysafe.spaces import Space
from retrysafe.statements import is_row, placed, sends
from retrysafe.values import is_name

_MOST_JOBS = 4
_MOST_VARIABLES = 6


def are_jobs(value):
    """Tells whether a value is what the jobs of a network are."""
    if not is_row(value, 1, _MOST_JOBS) or not all([is_named_job(pair) for pair in value]):
        return False
    names = [name for name, _ in value]
    if len(set(names)) < len(names) or not have_common_stores([job for _, job in value]):
        return False
    return all([sends_well(job, dict(list(value[:at]))) for at, (_, job) in enumerate(value)])


def is_named_job(value):
    """Tells whether a value is a pair of a name and a job."""
    return is_row(value, 2, 2) and is_name(value[0]) and isinstance(value[1], Job)


def sent_by(job):
    """The list of the `send` statements of a job."""
    return [statement for statement in placed(job.steps) if sends(statement)]


def sends_well(job, ahead):
    """Tells whether a job sends only what jobs ahead of it, a dict by their names, can receive."""
    for _, name, told in sent_by(job):
        if name not in ahead or len(ahead[name].arguments) != len(told) or len(taking(ahead[name])) > 0:
            return False
    return True


def have_common_stores(jobs):
    """Tells whether stores of the same name are the same, and no name is that of a variable and of something else."""
    stores = {}
    for job in jobs:
        for name, variables in job.stores:
            if stores.setdefault(name, variables) != variables:
                return False
    names = [name for variables in stores.values() for name in variables]
    others = [name for job in jobs for name in private_names(job)]
    if len(set(names)) < len(names) or len(names) > _MOST_VARIABLES:
        return False
    return not any([name in names for name in others])


def private_names(job):
    """The list of the names of arguments, locals and items."""
    items = [statement[1] for statement in job.steps if statement[0] == "repeat"]
    return list(job.arguments) + list(job.temps) + items


def plain_world(jobs, job, world, told, one):
    """What a run without failure makes of the values of all variables, as a dict like `world`.

    `jobs` is a dict by names, `told` has the arguments and then the taken values; `one` stands for 1, so that with 0
    each number is seen alone.
    """
    layout = Layout(job, ())
    vector = layout.start([world[name] for name in job.variables], told[:layout.extra])
    vector[-1] = one
    taken = list(told[layout.extra:])
    found = dict(world)
    for e, (place, lap) in enumerate(job.executions):
        apply(layout.program(e, e), vector, taken.pop(0) if e in layout.takers else 0)
        found.update({name: vector[at] for at, name in enumerate(job.variables)})
        statement = job.statement(place)
        if sends(statement):
            message = [worth(layout.terms_of(part, lap), vector) for part in statement[2]]
            found = plain_world(jobs, jobs[statement[1]], found, message, one)
            for at, name in enumerate(job.variables):
                vector[at] = found[name]
    return found


def worth(terms, vector):
    """The value of a sum for a vector."""
    return sum([factor * vector[at] for at, factor in terms])


def flat(scene, vector):
    """The matrix of the run that has a wide vector at its end, as a vector, row by row."""
    many = len(scene.names)
    found = [vector[column * scene.height + at] for at in range(many) for column in range(scene.columns)]
    return tuple(found + [vector[column * scene.height + scene.height - 1] for column in range(scene.columns)])


class NetworkStudy:
    """All runs of a job in a network."""

    def __init__(self, moments, ways):
        self._moments = moments
        self._ways = ways

    @property
    def is_safe(self):
        """Tells whether all these runs end right for one choice of moments."""
        return self._moments is not None

    @property
    def moments(self):
        """The first choice of moments for which all these runs end right, or None."""
        return self._moments

    @property
    def ways(self):
        """The space of the matrices of all these runs, None if the job takes."""
        return self._ways


class Network:
    """Jobs, of which each may send messages to those ahead of it."""

    def __init__(self, jobs):
        if not are_jobs(jobs):
            raise InvalidNetwork(jobs)
        self._jobs = jobs
        self._by_name = {name: job for name, job in jobs}
        self._variables = tuple(list({name: True for _, job in jobs for name in job.variables}))

    @property
    def jobs(self):
        """The tuple of the pairs of a name and a job."""
        return self._jobs

    @property
    def variables(self):
        """The tuple of the names of all durable variables, in the order in which they first occur."""
        return self._variables

    def named(self, name):
        """The job of a name."""
        if not isinstance(name, str) or name not in self._by_name:
            raise UnknownJob(name)
        return self._by_name[name]

    def meaning(self, name):
        """The matrix of a run without failure of the job of a name."""
        return Matrix(self._lines(self.named(name)))

    def study(self, name, marks):
        """All runs of the job of a name; the marks are those of all jobs, a dict by their names."""
        job = self.named(name)
        self._check_marks(marks)
        known = self._matrices(job, marks)
        goal = Goal(job, self._lines(job))
        if len(goal.takers) > 0:
            scene = Scene(job, marks[name].places, self._variables, known, False)
            alive, _ = narrowed(Flow(scene), goal, goal.choices)
            return NetworkStudy(alive[0] if len(alive) > 0 else None, None)
        ways = self._ways_of(job, marks[name].places, known)
        # All runs end right if there is no matrix but the one of a run without failure.
        return NetworkStudy(() if len(ways) == 1 else None, ways)

    def fewest(self, name, marks):
        """The least number of marks with which the job of a name is safe, and the first ones, or None."""
        job = self.named(name)
        self._check_marks(marks)
        known = self._matrices(job, marks)
        goal = Goal(job, self._lines(job))
        scripts = []
        for total, places in priced_choices(job, None):
            scene = Scene(job, places, self._variables, known, False)
            # What ruled out the last places rules out the next ones most often.
            alive = unrefuted(scene, goal, scripts[::-1], goal.choices)
            alive, others = narrowed(Flow(scene), goal, alive)
            if len(alive) > 0:
                return total, Marks(job, places)
            scripts.extend(others)
        return None

    def __eq__(self, other):
        return isinstance(other, Network) and self._jobs == other._jobs

    def _check_marks(self, marks):
        """Raises the error of what are not marks of all jobs."""
        if not isinstance(marks, dict) or len(marks) != len(self._jobs):
            raise InvalidMarks(marks)
        for name, job in self._jobs:
            if name not in marks or not are_marks(marks[name], job):
                raise InvalidMarks(marks)

    def _lines(self, job):
        """The rows of the meaning of a job."""
        many = len(self._variables)
        size = many + len(job.arguments) + len(taking(job)) + 1
        columns = []
        for at in range(size):
            units = [int(at == other) for other in range(size)]
            world = {name: units[place] for place, name in enumerate(self._variables)}
            ended = plain_world(self._by_name, job, world, units[many:-1], units[-1])
            columns.append([ended[name] for name in self._variables])
        return tuple([tuple([column[row] for column in columns]) for row in range(many)])

    def _matrices(self, job, marks):
        """The dict of the matrices of all jobs to which a job sends, by their names."""
        found = {}
        for _, name, _ in sent_by(job):
            if name not in found:
                receiver = self._by_name[name]
                ways = self._ways_of(receiver, marks[name].places, self._matrices(receiver, marks))
                found[name] = matrices_of(self._lines(receiver), ways.basis)
        return found

    def _ways_of(self, job, places, known):
        """The space of the matrices of all runs of a job that takes nothing."""
        scene = Scene(job, places, self._variables, known, True)
        flow = Flow(scene)
        flow.complete()
        vectors = [flat(scene, vector) for vector in flow.vectors((scene.length, scene.length))]
        return Space(len(self._variables) * scene.columns + scene.columns, vectors)
