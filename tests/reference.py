"""A slow second reading of the document, and jobs by chance, for the tests.

Runs are followed here by dicts from names to values, without anything of the package but `Job`.
"""

import unittest
from itertools import product

from retrysafe.errors import InvalidJob
from retrysafe.jobs import Job


class Lacking(Exception):
    """A taken value is lacking."""


def steps_of(job):
    """For each execution: (place, place of its repeat or None, end of its round, inner statements, item, value)."""
    found = []
    place = 0
    for statement in job.steps:
        if statement[0] != "repeat":
            inner = statement[1] if statement[0] == "atomic" else (statement,)
            found.append((place, None, None, inner, None, None))
            place += 1
            continue
        _, item, numbers, body = statement
        for number in numbers:
            end = len(found) + len(body)
            for at, step in enumerate(body):
                inner = step[1] if step[0] == "atomic" else (step,)
                found.append((place + 1 + at, place, end, inner, item, number))
        place += 1 + len(body)
    return found


class SlowRun:
    """One run, as points 12, 14 and 16 tell it."""

    def __init__(self, job, marked, values, arguments, taken):
        self.job = job
        self.marked = set(marked)
        self.steps = steps_of(job)
        self.first = dict(zip(job.variables, values))
        self.durable = dict(self.first)
        self.given = dict(zip(job.arguments, arguments))
        self.temps = {name: 0 for name in job.temps}
        self.taken = list(taken)
        self.used = 0
        self.here = self.far = 0
        self.kept = {}
        self.got = {}
        self.seen = {}
        self.moves = []

    def is_passed(self, e):
        place, around, end, _, _, _ = self.steps[e]
        return (place in self.marked and self.far > e) or (around in self.marked and self.far >= end)

    def step(self):
        e = self.here
        place, _, _, inner, item, number = self.steps[e]
        if self.is_passed(e):
            if place in self.marked:
                self.temps.update(self.kept[e])
            self.moves.append(("pass", e))
        else:
            for statement in inner:
                if statement[0] == "take":
                    if self.used == len(self.taken):
                        raise Lacking(e)
                    self.got[e] = self.taken[self.used]
                    self.used += 1
                    value = self.got[e]
                else:
                    known = {**self.durable, **self.given, **self.temps, item: number}
                    value = statement[2][1] + sum(factor * known[name] for factor, name in statement[2][2])
                (self.durable if statement[1] in self.durable else self.temps)[statement[1]] = value
            written = {statement[1] for statement in inner}
            self.kept[e] = {name: self.temps[name] for name in self.temps if name in written}
            for taker, value in self.got.items():
                self.seen[taker, e] = value
            self.moves.append(("do", e, tuple(self.durable.values())))
        self.here = e + 1
        self.far = max(self.far, self.here)

    def fail(self):
        self.moves.append(("fail", self.here))
        self.temps = {name: 0 for name in self.temps}
        self.here = 0

    def follow(self, plan):
        for position in plan:
            while self.here < position:
                self.step()
            self.fail()
        while self.here < len(self.steps):
            self.step()
        return self

    def vector(self):
        """The vector of point 19."""
        found = list(self.durable.values()) + list(self.first.values()) + list(self.given.values())
        found += list(self.temps.values())
        found += [self.seen.get((e, moment), 0) for e in takers(self.job) for moment in range(e, len(self.steps))]
        for e, step in enumerate(self.steps):
            if step[0] in self.marked:
                written = {statement[1] for statement in step[3]}
                kept = self.kept.get(e, {}) if self.far > e else {}
                found += [kept.get(name, 0) for name in self.job.temps if name in written]
        return tuple(found + [1])


def takers(job):
    """The executions that take."""
    return [e for e, step in enumerate(steps_of(job)) if any(statement[0] == "take" for statement in step[3])]


def all_choices(job):
    """All choices of moments."""
    return list(product(*[range(e, len(job)) for e in takers(job)]))


def is_right(job, marked, run, choice):
    """Tells whether a run ends right for a choice of moments (point 17)."""
    values, arguments, plan, taken = run
    ended = SlowRun(job, marked, values, arguments, taken).follow(plan)
    used = [ended.seen[e, moment] for e, moment in zip(takers(job), choice)]
    plain = SlowRun(job, (), values, arguments, used).follow(())
    return plain.durable == ended.durable


def all_plans(job, failures):
    """All plans with at most so many failures."""
    for many in range(failures + 1):
        yield from product(range(len(job) + 1), repeat=many)


def spanning_runs(job, marked, plan):
    """Runs with a plan of which all others are sums of multiples: all numbers 0, and one of them 1."""
    counted = SlowRun(job, marked, (0,) * len(job.variables), (0,) * len(job.arguments), (0,) * 200).follow(plan)
    many, given, taken = len(job.variables), len(job.arguments), counted.used
    for at in range(-1, many + given + taken):
        units = tuple(int(at == other) for other in range(many + given + taken))
        yield units[:many], units[many:many + given], plan, units[many + given:]


def slow_moments(job, marked, failures):
    """All choices of moments that are right for all runs with at most so many failures."""
    alive = all_choices(job)
    for plan in all_plans(job, failures):
        for run in spanning_runs(job, marked, plan):
            alive = [choice for choice in alive if is_right(job, marked, run, choice)]
    return alive


def slow_vectors(job, marked, failures):
    """For each state the set of the vectors of spanning runs with at most so many failures that come to it."""
    found = {(far, position): set() for far in range(len(job) + 1) for position in range(far + 1)}
    for plan in all_plans(job, failures):
        for values, arguments, _, taken in spanning_runs(job, marked, plan):
            run = SlowRun(job, marked, values, arguments, taken)
            found[0, 0].add(run.vector())
            for position in plan + (None,):
                while run.here < (len(job) if position is None else position):
                    run.step()
                    found[run.far, run.here].add(run.vector())
                if position is not None:
                    run.fail()
                    found[run.far, run.here].add(run.vector())
    return found


def sum_by_chance(random, names, numbers):
    chosen = sorted(random.sample(names, min(len(names), random.choice((0, 1, 1, 2, 3)))))
    return "sum", random.choice((0, 0) + numbers), tuple((random.choice(numbers), name) for name in chosen)


def step_by_chance(random, homes, names, numbers):
    """A `set`, `take` or `atomic` by chance; `homes` are the stores of the variables, None for locals."""
    word = random.choice(("set", "set", "set", "take", "atomic", "atomic"))
    if word == "set":
        return "set", random.choice(list(homes)), sum_by_chance(random, names, numbers)
    if word == "take":
        return "take", random.choice(list(homes))
    store = random.choice([home for home in homes.values() if home is not None])
    within = [name for name in homes if homes[name] in (None, store)]
    inner = [("set", random.choice(within), sum_by_chance(random, names, numbers))
             for _ in range(random.randint(1, 3))]
    if random.random() < 0.3:
        inner.insert(random.randint(0, len(inner)), ("take", random.choice(within)))
    return "atomic", tuple(inner)


def steps_by_chance(random, homes, names, numbers, places):
    steps = []
    while places > 0:
        if places > 1 and random.random() < 0.3:
            many = random.randint(1, min(3, places - 1))
            rounds = tuple(random.choice(numbers) for _ in range(random.randint(1, 3)))
            steps.append(("repeat", "i", rounds,
                          tuple(step_by_chance(random, homes, names + ["i"], numbers) for _ in range(many))))
            places -= 1 + many
        else:
            steps.append(step_by_chance(random, homes, names, numbers))
            places -= 1
    return tuple(steps)


def job_by_chance(random, places, executions, numbers=(1, 1, -1, 2, 3), least=0):
    """A job with at most so many places and so many executions, and at least so many of these."""
    while True:
        stores = random.choice(((("p", ("x",)),), (("p", ("x", "y")),), (("p", ("x",)), ("q", ("y",))),
                                (("p", ("x", "y")), ("q", ("z",)))))
        arguments = ("n",) * random.randint(0, 1)
        temps = ("t", "u")[:random.randint(0, 2)]
        homes = {name: store for store, variables in stores for name in variables}
        homes.update((name, None) for name in temps)
        steps = steps_by_chance(random, homes, [*homes, *arguments], numbers, random.randint(0, places))
        try:
            job = Job(stores, arguments, temps, steps)
        except InvalidJob:
            continue
        if least <= len(job) <= executions:
            return job


def numbers_by_chance(random, job, most=9):
    """Values and arguments for a job."""
    return [tuple(random.randint(-most, most) for _ in names) for names in (job.variables, job.arguments)]


def plan_by_chance(random, job, most):
    """A plan with at most so many failures."""
    return tuple(random.randint(0, len(job)) for _ in range(random.randint(0, most)))


def taken_by_chance(random, many, most=9):
    """So many taken values."""
    return tuple(random.randint(-most, most) for _ in range(many))


def marked_by_chance(random, job):
    """Some places of a job."""
    return tuple(place for place in range(job.places) if random.random() < 0.4)


# What is no integer, whatever its range.
NO_INTEGERS = (True, False, None, 1.0, "1", "", (1,), [1], {1: 1})
NO_TUPLES = (None, 0, True, "", "ab", [], [1], {}, {1}, 1.5)


class Told(unittest.TestCase):
    """Tests of which error is raised, and of what it carries."""

    def assert_raised(self, error, fields, action, *args, **named):
        with self.assertRaises(error) as caught:
            action(*args, **named)
        self.assertIs(type(caught.exception), error)
        for name, value in fields.items():
            self.assertIs(getattr(caught.exception, name), value)

    def assert_value(self, error, value, action, *args, **named):
        """The error carries the wrong object itself."""
        self.assert_raised(error, {"value": value}, action, *args, **named)

    def assert_no_job(self, action, *args, **named):
        self.assert_raised(InvalidJob, {"part": None}, action, *args, **named)
