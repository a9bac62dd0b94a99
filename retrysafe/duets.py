"""Duets: the stage of two runners that perform a job at once.

A state is a triple (far, position of runner 0, position of runner 1); the label of a move is its pair in a schedule.
"""

from retrysafe.flows import composed, image, mapped
from retrysafe.layouts import Layout
from retrysafe.statements import is_row
from retrysafe.values import is_int

RUNNERS = (0, 1)
# Spaces are told with the least numbers if the values at the beginnings of runs lead, and the present ones follow.
_ORDER = ("one", "first", "given", "kept", "local", "now")


def tags_for_two(layout):
    """The labels of a layout with the locals of both runners."""
    temps = [tag for tag in layout.tags if tag[0] == "local"]
    both = [tag + (runner,) for runner in RUNNERS for tag in temps]
    ahead = [tag for tag in layout.tags if tag[0] in ("now", "first", "given")]
    behind = [tag for tag in layout.tags if tag[0] in ("kept", "one")]
    return tuple(ahead + both + behind)


class Duet:
    """The vectors of the runs of two runners, and what the moves of each do to them."""

    def __init__(self, job, places):
        layout = Layout(job, places)
        self.layout = layout
        self.length = layout.length
        self.tags = tags_for_two(layout)
        self.height = len(self.tags)
        self.order = [at for word in _ORDER for at, tag in enumerate(self.tags) if tag[0] == word]
        spots = {tag: at for at, tag in enumerate(self.tags)}
        views = [[spots[tag + (runner,) if tag[0] == "local" else tag] for tag in layout.tags] for runner in RUNNERS]
        self.dropping = [composed(mapped(layout.dropping, view)) for view in views]
        self.performing = [[composed(mapped(program, view)) for program in layout.performing] for view in views]
        self.restoring = [[composed(mapped(program, view)) for program in layout.restoring] for view in views]

    def seeds(self):
        """The vectors ahead of all moves, with the values and arguments as their labels."""
        return [((values, arguments), (0, 0, 0), self.start(values, arguments))
                for values, arguments in self.layout.starts()]

    def start(self, values, arguments):
        """The vector ahead of all moves."""
        rest = self.height - 2 * len(values) - len(arguments) - 1
        return list(values) + list(values) + list(arguments) + [0] * rest + [1]

    def moves(self, state):
        """The moves from a state, but for failures at position 0, which change nothing."""
        found = []
        for runner in RUNNERS:
            if state[1 + runner] < self.length:
                found.append(self.move(state, runner, "step"))
            if state[1 + runner] > 0:
                found.append(self.move(state, runner, "fail"))
        return found

    def move(self, state, runner, word):
        """A move of a runner from a state."""
        far, position = state[0], state[1 + runner]
        rows = self.dropping[runner]
        behind = 0
        if word == "step":
            is_over = self.layout.is_passed(position, far)
            rows = self.restoring[runner][position] if is_over else self.performing[runner][position]
            behind = position + 1
        positions = (behind, state[2]) if runner == 0 else (state[1], behind)
        return (runner, word), (max(far, behind),) + positions, False, rows

    def may_end(self, state):
        """Tells whether a run of both may end at a state."""
        _, one, other = state
        return self.length in (one, other) and one in (0, self.length) and other in (0, self.length)

    def ended(self, run):
        """The state and the vector behind a run of both."""
        values, arguments, schedule = run
        state = (0, 0, 0)
        vector = self.start(values, arguments)
        for runner, word in schedule:
            move = self.move(state, runner, word)
            vector = image(move, vector, self.height)
            state = move[1]
        return state, vector


def is_pair_of_move(value):
    """Tells whether a value is a pair of a runner and a move."""
    return (is_row(value, 2, 2) and is_int(value[0]) and value[0] in RUNNERS
            and isinstance(value[1], str) and value[1] in ("step", "fail"))


def is_schedule(value, length):
    """Tells whether a value is a schedule for a job of this length."""
    if not isinstance(value, tuple) or not all([is_pair_of_move(pair) for pair in value]):
        return False
    positions = [0, 0]
    for runner, word in value:
        if word == "step" and positions[runner] == length:
            return False
        positions[runner] = positions[runner] + 1 if word == "step" else 0
    return True
