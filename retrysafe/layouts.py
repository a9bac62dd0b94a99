"""Layouts: the vectors of the runs of a job with marks, and what each move does to them.

A move is a program, a tuple of assignments that are made one behind the other: pairs (target, terms). The entry
at the target becomes the sum of the products of the factors with the entries in `terms`, pairs (position, factor);
with None in the place of the terms it becomes the taken value. Programs are linear, so they also move differences
of vectors: with the taken value 0, or from the zero vector with 1, which is what a taken value adds.
"""

from retrysafe.statements import parts, rounds, takes


def taking(job):
    """The tuple of the executions of a job that take."""
    return tuple([e for e, (place, _) in enumerate(job.executions) if takes(job.statement(place))])


def limits(job, places):
    """For each execution the least far with which it is passed over, if these places are marked; None if none is."""
    found = []
    around = rounds(job.steps)
    for e, (place, _) in enumerate(job.executions):
        if place in places:
            found.append(e + 1)
        elif around[e][0] in places:
            found.append(around[e][1])
        else:
            found.append(None)
    return found


def states(length):
    """The list of the states of the runs of a job of this length, pairs (far, position), in order."""
    return [(far, position) for far in range(length + 1) for position in range(far + 1)]


def is_passed(limit, far):
    """Tells whether an execution with such a limit is passed over."""
    return limit is not None and far >= limit


def written_temps(job, place):
    """The locals that the step at a place writes, in the order of the job."""
    names = [part[1] for part in parts(job.statement(place))]
    return [name for name in job.temps if name in names]


def labels_of(job, places):
    """The tuple of the labels of the vectors of a job with these places marked."""
    found = [("now", name) for name in job.variables]
    found.extend([("first", name) for name in job.variables])
    found.extend([("given", name) for name in job.arguments])
    found.extend([("local", name) for name in job.temps])
    found.extend([("seen", e, moment) for e in taking(job) for moment in range(e, len(job))])
    for e, (place, _) in enumerate(job.executions):
        if place in places:
            found.extend([("kept", e, name) for name in written_temps(job, place)])
    found.append(("one",))
    return tuple(found)


def apply(program, vector, taken):
    """Changes a vector, a list, as a program does with this taken value."""
    for target, terms in program:
        if terms is None:
            vector[target] = taken
        else:
            vector[target] = sum([factor * vector[at] for at, factor in terms])


def pulled(program, form, taken):
    """The form which has for each vector the value that a form has for the vector that a program makes of it.

    A form is a list of factors, one for each entry; the last entry of the vectors is 1.
    """
    found = list(form)
    for target, terms in reversed(program):
        worth = found[target]
        found[target] = 0
        if terms is None:
            found[-1] += taken * worth
        elif worth != 0:
            for at, factor in terms:
                found[at] += factor * worth
    return found


class Layout:
    """The labels of the vectors of a job with some places marked, and the programs of its moves."""

    def __init__(self, job, marked):
        self.length = len(job)
        self.many = len(job.variables)
        self.extra = len(job.arguments)
        self.takers = taking(job)
        self.tags = labels_of(job, marked)
        self.size = len(self.tags)
        self.spots = {tag: at for at, tag in enumerate(self.tags)}
        self.limits = limits(job, marked)
        self.dropping = tuple([(self.spots["local", name], ()) for name in job.temps])
        self.performing = [self.performed(job, e) for e in range(self.length)]
        self.restoring = [self.restored(job, e) for e in range(self.length)]

    def performed(self, job, e):
        """The program of performing an execution."""
        place, lap = job.executions[e]
        found = []
        for part in parts(job.statement(place)):
            target = self.spot_of(part[1])
            if part[0] == "take":
                seen = self.spots["seen", e, e]
                found.extend([(seen, None), (target, ((seen, 1),))])
            else:
                found.append((target, self.terms_of(part[2], lap)))
        for taker in self.takers:
            if taker < e:
                found.append((self.spots["seen", taker, e], ((self.spots["seen", taker, taker], 1),)))
        for name in self.kept_names(job, e):
            found.append((self.spots["kept", e, name], ((self.spots["local", name], 1),)))
        return tuple(found)

    def restored(self, job, e):
        """The program of passing over an execution."""
        names = self.kept_names(job, e)
        return tuple([(self.spots["local", name], ((self.spots["kept", e, name], 1),)) for name in names])

    def kept_names(self, job, e):
        """The locals whose values an execution keeps."""
        return [name for name in job.temps if ("kept", e, name) in self.spots]

    def spot_of(self, name):
        """The position of the value of a name; None for an item."""
        for word in ("now", "given", "local"):
            if (word, name) in self.spots:
                return self.spots[word, name]
        return None

    def terms_of(self, told, lap):
        """The terms of a sum while the item has this value."""
        _, constant, terms = told
        found = []
        for factor, name in terms:
            at = self.spot_of(name)
            if at is None:
                constant += factor * lap
            else:
                found.append((at, factor))
        if constant != 0:
            found.append((self.size - 1, constant))
        return tuple(found)

    def is_passed(self, e, far):
        """Tells whether an execution is passed over."""
        return is_passed(self.limits[e], far)

    def taker_at(self, e, far):
        """Tells whether an execution takes a value while far is this number."""
        return e in self.takers and not self.is_passed(e, far)

    def program(self, e, far):
        """The program of the step at a position while far is this number."""
        return self.restoring[e] if self.is_passed(e, far) else self.performing[e]

    def stepped(self, e, far, vector, taken):
        """What a step makes of a vector, as a new list."""
        found = list(vector)
        apply(self.program(e, far), found, taken)
        return found

    def moved(self, e, far, vectors):
        """Vectors whose sums of multiples are all that a step makes of sums of multiples of these vectors."""
        found = [self.stepped(e, far, vector, 0) for vector in vectors]
        if self.taker_at(e, far):
            found.append(self.stepped(e, far, [0] * self.size, 1))
        return found

    def dropped(self, vector):
        """What a failure makes of a vector, as a new list."""
        found = list(vector)
        apply(self.dropping, found, 0)
        return found

    def start(self, numbers, arguments):
        """The vector of a run ahead of its first move, as a list."""
        rest = self.size - 2 * self.many - self.extra - 1
        return list(numbers) + list(numbers) + list(arguments) + [0] * rest + [1]

    def starts(self):
        """The pairs (values, arguments) with all 0, and with one of them 1."""
        many = self.many + self.extra
        found = [((0,) * self.many, (0,) * self.extra)]
        for at in range(many):
            units = [int(at == other) for other in range(many)]
            found.append((tuple(units[:self.many]), tuple(units[self.many:])))
        return found
