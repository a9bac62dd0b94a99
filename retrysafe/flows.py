"""Flows: the spaces of the vectors of all runs at all states, found by moving on whatever is new.

A stage tells the states and moves of runs. `seeds()` are triples (label, state, vector), at which vectors of runs come
up; `moves(state)` are tuples (label, target, is_bare, rows). Vectors are rows of columns, each of the height of the
stage. A move does the same to each column: the entry at the target of a row becomes the sum of the products of the
factors with the entries in its terms, all told of the column ahead of the move. Entries without a row remain, or
become 0 if the move is bare. `may_end(state)` tells whether runs may end there.

What is new is moved on in the order in which it came up. So beside it stands its script, the labels of a run whose
vector is a multiple of what is new plus a sum of multiples of what was there before.
"""

from retrysafe.echelons import Echelon


def composed(program):
    """The rows of a program (as in `layouts`) in which nothing is taken or the taken value is 0."""
    known = {}
    for target, terms in program:
        found = {}
        for at, factor in () if terms is None else terms:
            for source, share in known.get(at, {at: 1}).items():
                found[source] = found.get(source, 0) + factor * share
        known[target] = found
    return tuple([(target, plain_terms(known[target])) for target in known])


def plain_terms(factors):
    """The terms of a dict from positions to factors."""
    return tuple([(at, factors[at]) for at in factors if factors[at] != 0])


def mapped(program, spots):
    """A program or rows with other positions."""
    found = []
    for target, terms in program:
        changed = None if terms is None else tuple([(spots[at], factor) for at, factor in terms])
        found.append((spots[target], changed))
    return tuple(found)


def image(move, vector, height):
    """What a move makes of a vector, as a new list."""
    _, _, is_bare, rows = move
    found = []
    for begin in range(0, len(vector), height):
        column = vector[begin:begin + height]
        if any(column):
            changed = [0] * height if is_bare else list(column)
            for target, terms in rows:
                changed[target] = sum([factor * column[at] for at, factor in terms])
            column = changed
        found.extend(column)
    return found


class Flow:
    """The spaces at the states of a stage, while they grow."""

    def __init__(self, stage):
        self.stage = stage
        self.grounds = {}
        # What is new and was not moved on yet: triples of a state, a vector and its script.
        self.fresh = []
        self.known = {}
        for label, state, vector in stage.seeds():
            self.arrive(state, vector, (label,))

    def arrive(self, state, vector, script):
        """Adds a vector to the space at a state."""
        if state not in self.grounds:
            self.grounds[state] = Echelon(self.stage.order)
        rest = self.grounds[state].grow(vector)
        if rest is not None:
            self.fresh.append((state, rest, script))

    def moves_from(self, state):
        """The moves from a state."""
        if state not in self.known:
            self.known[state] = self.stage.moves(state)
        return self.known[state]

    def advance(self):
        """Moves on all that is new."""
        moved = self.fresh
        self.fresh = []
        for state, vector, script in moved:
            for move in self.moves_from(state):
                self.arrive(move[1], image(move, vector, self.stage.height), script + (move[0],))

    def complete(self):
        """Moves on until nothing is new."""
        while len(self.fresh) > 0:
            self.advance()

    def vectors(self, state):
        """Vectors whose sums of multiples are the space at a state."""
        return self.grounds[state].full_lines() if state in self.grounds else []


def narrowed(flow, goal, alive):
    """Those of some choices that are right at the ends of all runs, and scripts of runs that rule out the others.

    The flow goes on until no choice is left, or until nothing is new.
    """
    scripts = []
    while len(alive) > 0 and len(flow.fresh) > 0:
        for state, vector, script in flow.fresh:
            if flow.stage.may_end(state):
                rest = goal.right(flow.stage, vector, alive)
                if len(rest) < len(alive):
                    scripts.append(script)
                    alive = rest
        flow.advance()
    return alive, scripts


def played(stage, script):
    """The states and vectors, as pairs, of the run of a script on a stage with other marks, in order.

    Moves that are not there are left out; none if the run cannot begin.
    """
    found = [(state, vector) for label, state, vector in stage.seeds() if label == script[0]]
    for label in script[1:]:
        if len(found) > 0:
            state, vector = found[-1]
            moves = [move for move in stage.moves(state) if move[0] == label]
            found.extend([(move[1], image(move, vector, stage.height)) for move in moves])
    return found


def unrefuted(stage, goal, scripts, alive):
    """Those of some choices that are right at the ends of the runs of scripts."""
    for script in scripts:
        for state, vector in played(stage, script):
            if len(alive) > 0 and stage.may_end(state):
                alive = goal.right(stage, vector, alive)
    return alive
