"""A slow second reading of points 29 to 33, for the tests: runs by chance, followed number by number.

Numbers are rows here: what a number has of each value at the beginning, so that one run tells a whole matrix.
"""

from random import Random

from reference import steps_of
from retrysafe.errors import InvalidJob, InvalidNetwork
from retrysafe.jobs import Job
from retrysafe.networks import Network


class Row:
    """A sum of multiples of the values at the beginning."""

    def __init__(self, entries):
        self.entries = tuple(entries)

    def __add__(self, other):
        return Row(one + two for one, two in zip(self.entries, other.entries))

    def __rmul__(self, factor):
        return Row(factor * entry for entry in self.entries)


def units(size):
    """The rows of the values at the beginning, each by itself."""
    return [Row(int(at == other) for other in range(size)) for at in range(size)]


def value_of(told, known, one):
    _, constant, terms = told
    found = constant * one
    for factor, name in terms:
        found = found + factor * known[name]
    return found


class Mail:
    """A network with marks, in which runs are made by chance."""

    def __init__(self, random, jobs, marked, size):
        self.random = random
        self.jobs = dict(jobs)
        self.marked = marked
        self.one = units(size)[-1]
        self.zero = 0 * self.one
        # What the takes of the outermost job get, in order, and what they have seen.
        self.taken = []
        self.seen = {}
        self.is_plain = False

    def receive(self, receiver, world, message):
        """One run of a receiver's job."""
        many = 0 if self.is_plain else 1
        self.run(receiver, world, message, self.random.randint(0, 2 * many), self.random.randint(0, many))

    def run(self, name, world, arguments, failures, copies):
        """Changes the values of all variables as one run with at most so many failures and late copies does."""
        job = self.jobs[name]
        steps = steps_of(job)
        given = dict(zip(job.arguments, arguments))
        temps = {temp: self.zero for temp in job.temps}
        kept, waits, got = {}, {}, {}
        here = far = 0
        while True:
            while waits and copies > 0 and self.random.random() < 0.4:
                copies -= 1
                receiver, message = waits[self.random.choice(list(waits))]
                self.receive(receiver, world, message)
            if failures > 0 and self.random.random() < 0.3:
                failures -= 1
                here = 0
                temps = {temp: self.zero for temp in job.temps}
                continue
            if here == len(steps):
                return
            place, around, end, inner, item, number = steps[here]
            marks = self.marked[name]
            if (place in marks and far > here) or (around in marks and far >= end):
                if place in marks:
                    temps.update(kept[here])
            else:
                for statement in inner:
                    known = {**world, **given, **temps, item: None if number is None else number * self.one}
                    if statement[0] == "send":
                        message = [value_of(told, known, self.one) for told in statement[2]]
                        self.receive(statement[1], world, message)
                        if place not in marks and (here not in waits or self.random.random() < 0.5):
                            waits[here] = (statement[1], message)
                        continue
                    if statement[0] == "take":
                        value = got[here] = self.taken.pop(0)
                    else:
                        value = value_of(statement[2], known, self.one)
                    (world if statement[1] in world else temps)[statement[1]] = value
                written = [statement[1] for statement in inner if statement[0] != "send"]
                kept[here] = {temp: temps[temp] for temp in temps if temp in written}
                for taker, value in got.items():
                    self.seen[taker, here] = value
            here += 1
            far = max(far, here)


def matrix_by_chance(random, network, marked, name, failures=3, copies=3):
    """The vector of the matrix of a run by chance of a job that takes nothing."""
    many, job = len(network.variables), network.named(name)
    size = many + len(job.arguments) + 1
    mail = Mail(random, network.jobs, marked, size)
    rows = units(size)
    world = dict(zip(network.variables, rows))
    mail.run(name, world, rows[many:-1], random.randint(0, failures), random.randint(0, copies))
    return tuple(entry for row in [*world.values(), mail.one] for entry in row.entries)


def plain_matrix(network, name):
    """The rows of the meaning of a job."""
    many, job = len(network.variables), network.named(name)
    takes = sum(any(statement[0] == "take" for statement in step[3]) for step in steps_of(job))
    size = many + len(job.arguments) + takes + 1
    mail = Mail(None, network.jobs, {name: () for name, _ in network.jobs}, size)
    mail.is_plain = True
    rows = units(size)
    world = dict(zip(network.variables, rows))
    mail.random = Random(0)
    mail.taken = rows[many + len(job.arguments):-1]
    mail.run(name, world, rows[many:many + len(job.arguments)], 0, 0)
    return tuple(row.entries for row in world.values())


def right_by_chance(random, network, marked, name, lines, failures=3, copies=3):
    """For a run by chance of a job: a function that tells whether it ends right for a choice of moments."""
    many, job = len(network.variables), network.named(name)
    size = many + len(job.arguments) + 9 + 1
    mail = Mail(random, network.jobs, marked, size)
    rows = units(size)
    world = dict(zip(network.variables, rows))
    given = rows[many:many + len(job.arguments)]
    free = rows[many + len(job.arguments):-1]
    failed = random.randint(0, failures)
    mail.taken = (free + [random.randint(-3, 3) * mail.one for _ in range(99)])
    mail.run(name, world, given, failed, random.randint(0, copies))
    takers = [e for e, step in enumerate(steps_of(job)) if any(statement[0] == "take" for statement in step[3])]

    def is_right(choice):
        used = [mail.seen[e, moment] for e, moment in zip(takers, choice)]
        for name, line in zip(network.variables, lines):
            told = mail.zero
            for factor, row in zip(line, rows[:many] + given + used + [mail.one]):
                told = told + factor * row
            if told.entries != world[name].entries:
                return False
        return True

    return is_right


def sum_by_chance(random, names, constants=(0, 0, 0, 1, 2)):
    chosen = sorted(random.sample(names, min(len(names), random.choice((0, 1, 1, 2)))))
    return "sum", random.choice(constants), tuple((random.choice((1, 1, -1, 2)), name) for name in chosen)


def steps_of_sender(random, job_stores, arguments, temps, ahead, places, takes):
    """Statements by chance, some of which send to jobs ahead (a dict by names)."""
    variables = [name for _, names in job_stores for name in names]
    steps = []
    items = ()
    while places > 0:
        names = [*variables, *arguments, *temps, *items]

        def simple():
            word = random.random()
            if word < 0.45 and ahead:
                name = random.choice(list(ahead))
                return "send", name, tuple(sum_by_chance(random, names) for _ in ahead[name].arguments)
            if word > 0.85 and takes:
                return "take", random.choice([*variables, *temps])
            if word > 0.75:
                store = random.choice(job_stores)
                inner = tuple(("set", random.choice([*store[1], *temps]), sum_by_chance(random, names)) for _ in range(2))
                return "atomic", inner
            return "set", random.choice([*variables, *temps]), sum_by_chance(random, names)

        if places > 1 and random.random() < 0.2:
            many = random.randint(1, places - 1)
            names = names + ["i"]
            steps.append(("repeat", "i", tuple(random.choice((1, 2, -1)) for _ in range(random.randint(1, 2))),
                          tuple(simple() for _ in range(min(many, 4)))))
            places -= 1 + many
        else:
            steps.append(simple())
            places -= 1
    return tuple(steps)


def network_by_chance(random, most=3, places=3, least=0):
    """A network by chance in which the last job has at least so many sends."""
    while True:
        stores = {"a": ("x", "y") if random.random() < 0.3 else ("x",), "b": ("z",)}
        jobs = {}
        try:
            for name in ("one", "two", "three", "four")[:random.randint(1, most)]:
                chosen = random.sample(list(stores), random.randint(1, len(stores)))
                told = tuple((store, stores[store]) for store in chosen)
                arguments = ("n", "m")[:random.choice((0, 1, 1, 2))]
                temps = ("t",)[:random.randint(0, 1)]
                steps = steps_of_sender(random, told, arguments, temps, jobs, random.randint(0, places),
                                        random.random() < 0.2)
                jobs[name] = Job(told, arguments, temps, steps)
            network = Network(tuple(jobs.items()))
        except (InvalidJob, InvalidNetwork):
            continue
        last = list(jobs.values())[-1]
        if sum(last.statement(place)[0] == "send" for place, _ in last.executions) >= least:
            return network
