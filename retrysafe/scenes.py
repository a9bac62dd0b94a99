"""Scenes: the stages of jobs that run in a network and send messages.

A state is a pair (far, position). What a receiver's run does is linear in its matrix, so that instead of all matrices
of runs some suffice, as `matrices_of` tells: that of a run without failure, and bare ones, whose multiples the others
have beside it. A bare matrix stands for the difference of two runs; of their vectors nothing is left but what the
variables differ by.

The vectors of a narrow scene have one column, those of runs, with the values at the beginning. A wide scene has a
column for each variable, each argument, and 1: what a run makes of each of them alone. So the spaces at the ends of a
wide scene are those of the matrices of runs.
"""

from retrysafe.echelons import Echelon
from retrysafe.flows import composed, mapped, plain_terms
from retrysafe.layouts import Layout
from retrysafe.statements import sends

# Spaces are told with the least numbers if the values at the beginnings of runs lead, and the present ones follow.
_ORDER = ("one", "first", "given", "seen", "kept", "wait", "local", "now")


def loose_sends(job, places):
    """The executions whose messages may wait, if these places are marked."""
    return [e for e, (place, _) in enumerate(job.executions) if sends(job.statement(place)) and place not in places]


def matrices_of(plain, vectors):
    """Pairs (is_bare, rows) of matrices that suffice for all runs of a job.

    `plain` has the rows of the variables of a run without failure; the vectors tell the space of all matrices.
    """
    many, columns = len(plain), len(plain[0])
    size = (many + 1) * columns
    # The last entry leads, so that it is 0 in all lines but the one that has it as its head.
    span = Echelon([size - 1] + list(range(size - 1)))
    for vector in vectors:
        span.grow(vector)
    found = [(False, plain)]
    for line in span.full_lines():
        if line[size - 1] == 0:
            found.append((True, [line[at * columns:(at + 1) * columns] for at in range(many)]))
    return found


class Scene:
    """The vectors of the runs of a job in a network, and what their moves do to them.

    `known` is a dict from the names of the jobs that it sends to to their matrices.
    """

    def __init__(self, job, places, names, known, is_wide):
        layout = Layout(job, places)
        self.subject = job
        self.layout = layout
        self.length = layout.length
        self.names = names
        self.known = known
        self.loose = loose_sends(job, places)
        self.is_wide = is_wide
        self.tags = self.row_tags()
        self.height = len(self.tags)
        self.columns = len(names) + layout.extra + 1 if is_wide else 1
        self.spots = {tag: at for at, tag in enumerate(self.tags)}
        self.order = self.row_order()
        # The first values are no entries of wide vectors, and no program has them.
        self.view = [self.spots.get(tag) for tag in layout.tags]
        self.dropping = composed(mapped(layout.dropping, self.view))
        self.late = {e: self.deliveries(e, self.waiting(e)) for e in self.loose}

    def row_tags(self):
        """The labels of the entries of a column."""
        job = self.subject
        found = [("now", name) for name in self.names]
        if not self.is_wide:
            found.extend([("first", name) for name in self.names])
        found.extend([tag for tag in self.layout.tags if tag[0] in ("given", "local", "seen", "kept")])
        for e in self.loose:
            found.extend([("wait", e, at) for at in range(len(job.statement(job.executions[e][0])[2]))])
        return found + [("one",)]

    def row_order(self):
        """The order in which the entries of a vector lead."""
        rows = [at for word in _ORDER for at, tag in enumerate(self.tags) if tag[0] == word]
        return [column * self.height + at for at in rows for column in range(self.columns)]

    def message(self, e):
        """The list of the terms of the values that an execution sends."""
        place, lap = self.subject.executions[e]
        found = [self.layout.terms_of(told, lap) for told in self.subject.statement(place)[2]]
        return [[(self.view[at], factor) for at, factor in terms] for terms in found]

    def waiting(self, e):
        """The list of the terms of the values of the message of an execution that waits."""
        return [[(at, 1)] for at, tag in enumerate(self.tags) if tag[:2] == ("wait", e)]

    def deliveries(self, e, message):
        """What the runs of a receiver do with a message of an execution, pairs (is_bare, rows)."""
        name = self.subject.statement(self.subject.executions[e][0])[1]
        return [(is_bare, self.delivered(lines, message)) for is_bare, lines in self.known[name]]

    def delivered(self, lines, message):
        """The rows of the variables behind a run of a receiver that has these lines as its matrix."""
        many = len(self.names)
        found = []
        for target, line in enumerate(lines):
            factors = {at: line[at] for at in range(many)}
            factors[self.height - 1] = line[-1]
            for worth, terms in zip(line[many:], message):
                for at, factor in terms:
                    factors[at] = factors.get(at, 0) + worth * factor
            found.append((target, plain_terms(factors)))
        return tuple(found)

    def seeds(self):
        """The vectors ahead of the first move, and what 1 adds as a taken value wherever one is taken."""
        if self.is_wide:
            return [("all", (0, 0), self.wide_start())]
        many = len(self.names)
        begin = self.layout.extra + many
        found = []
        for at in range(-1, begin):
            units = [int(at == other) for other in range(begin)]
            rest = [0] * (self.height - 2 * many - self.layout.extra - 1)
            found.append((at, (0, 0), units[:many] + units + rest + [1]))
        for far in range(self.length + 1):
            for e in range(min(far + 1, self.length)):
                if self.layout.taker_at(e, far):
                    found.append((("take", far, e), (max(far, e + 1), e + 1), self.taken_unit(e, far)))
        return found

    def wide_start(self):
        """The wide vector ahead of the first move."""
        rows = [("now", name) for name in self.names] + [("given", name) for name in self.subject.arguments]
        found = [0] * (self.height * self.columns)
        for column, tag in enumerate(rows + [("one",)]):
            found[column * self.height + self.spots[tag]] = 1
        return found

    def taken_unit(self, e, far):
        """What 1 adds as the value that an execution takes."""
        layout = self.layout
        found = [0] * self.height
        for at, entry in enumerate(layout.stepped(e, far, [0] * layout.size, 1)):
            # Nothing that is taken changes the values at the beginning.
            if entry != 0:
                found[self.view[at]] = entry
        return found

    def moves(self, state):
        """The moves from a state, but for a failure at position 0, which changes nothing."""
        far, position = state
        found = []
        if position < self.length:
            target = (max(far, position + 1), position + 1)
            for label, is_bare, rows in self.steps_at(position, far):
                found.append((label, target, is_bare, rows))
        if position > 0:
            found.append(("fail", (far, 0), False, self.dropping))
        for e in self.loose:
            if e < far:
                for at, (is_bare, rows) in enumerate(self.late[e]):
                    found.append((("late", e, at), state, is_bare, rows))
        return found

    def steps_at(self, e, far):
        """The steps of an execution while far is this number: tuples (label, is_bare, rows)."""
        layout = self.layout
        own = composed(mapped(layout.program(e, far), self.view))
        if layout.is_passed(e, far) or not sends(self.subject.statement(self.subject.executions[e][0])):
            return [(("step", 0, 0), False, own)]
        message = self.message(e)
        found = []
        for at, (is_bare, rows) in enumerate(self.deliveries(e, message)):
            for way, slots in enumerate(self.slots_behind(e, far, is_bare, message)):
                found.append((("step", at, way), is_bare, rows if is_bare else rows + own + slots))
        return found

    def slots_behind(self, e, far, is_bare, message):
        """The rows of the message that waits, one for each message that may do so behind a performed `send`."""
        if is_bare or e not in self.loose:
            return [()]
        spots = [at for at, tag in enumerate(self.tags) if tag[:2] == ("wait", e)]
        found = [tuple([(at, tuple(terms)) for at, terms in zip(spots, message)])]
        # The first message is the only one that can wait.
        return found + [()] if far > e else found

    def may_end(self, state):
        """Tells whether runs may end at a state."""
        return state == (self.length, self.length)
