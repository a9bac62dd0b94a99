"""Searches: all runs of a job with marks, by their numbers of failures.

Far only grows, and a failure goes back to position 0. So of all states of runs only two for each far are kept: its
top, where the position is far, and its bottom, where the position is 0; the others are walked through. At each of the
two a space grows. What is new there is moved on, once; moving it, instead of the vectors of all runs, is enough as
moves are linear. Beside what is new stands its origin, the run whose vector brought it up: (beginning, plan, taken).
Its vector is a multiple of what is new plus a sum of multiples of vectors that were there before.
"""

from retrysafe.echelons import Echelon

# Spaces are told with the least numbers if the values at the beginnings of runs lead, and the present ones follow.
_ORDER = ("one", "first", "given", "seen", "kept", "local", "now")


def with_taken(origin, taken):
    """The origin with one more taken value."""
    beginning, plan, before = origin
    return beginning, plan, before + (taken,)


def with_failure(origin, position):
    """The origin with one more failure."""
    beginning, plan, taken = origin
    return beginning, plan + (position,), taken


def begun_runs(layout):
    """The vectors ahead of the first move, each with its origin."""
    return [(layout.start(values, arguments), ((values, arguments), (), ()))
            for values, arguments in layout.starts()]


def grown(echelon, arrived):
    """What is new of the vectors that arrive somewhere, each with its origin."""
    found = []
    for vector, origin in arrived:
        rest = echelon.grow(vector)
        if rest is not None:
            found.append((rest, origin))
    return found


class Search:
    """The spaces of the runs with at most so many failures as the level; a level below 0 is ahead of all runs.

    `begun` is the list of the vectors ahead of the first move, each with its origin.
    """

    def __init__(self, layout, begun):
        self.layout = layout
        self.begun = begun
        self.level = -1
        self.is_done = False
        # What is new at the end of the job.
        self.fresh = []
        order = [at for word in _ORDER for at, tag in enumerate(layout.tags) if tag[0] == word]
        self.tops = [Echelon(order) for _ in range(layout.length + 1)]
        self.bottoms = [Echelon(order) for _ in range(layout.length + 1)]
        # What was new at the bottoms of the fars above 0.
        self.landed = [[] for _ in range(layout.length + 1)]
        self.pending = [[] for _ in range(layout.length + 1)]
        self.varied = {}

    def advance(self):
        """Looks at the runs with one more failure; if they bring up nothing new, the search is done."""
        self.level += 1
        arrived = list(self.begun) if self.level == 0 else []
        self.is_done = self.level > 0
        for far in range(self.layout.length + 1):
            fallen = grown(self.bottoms[far], self.pending[far])
            self.pending[far] = []
            self.landed[far].extend(fallen)
            for vector, origin in fallen:
                self.is_done = False
                arrived.extend(self.walked(far, 0, vector, origin))
            self.fresh = grown(self.tops[far], arrived)
            arrived = []
            for vector, origin in self.fresh:
                self.note_failure(far, far, vector, origin)
                arrived.extend(self.climbed(far, vector, origin))

    def note_failure(self, far, position, vector, origin):
        """Keeps what a failure makes of a vector for the next level."""
        # A failure at position 0 changes nothing.
        if position > 0:
            self.pending[far].append((self.layout.dropped(vector), with_failure(origin, position)))

    def stepped(self, e, far, vector, origin):
        """What a step makes of a vector: with the taken value 0, and what 1 adds, if this is new."""
        layout = self.layout
        if not layout.taker_at(e, far):
            return [(layout.stepped(e, far, vector, 0), origin)]
        found = [(layout.stepped(e, far, vector, 0), with_taken(origin, 0))]
        if (far, e) not in self.varied:
            self.varied[far, e] = True
            found.append((layout.stepped(e, far, [0] * layout.size, 1), with_taken(origin, 1)))
        return found

    def climbed(self, far, vector, origin):
        """What comes of a vector from the top of a far at the top of the next one."""
        return self.stepped(far, far, vector, origin) if far < self.layout.length else []

    def walked(self, far, position, vector, origin):
        """What comes of a vector at the top of its far; failures on the way are noted."""
        added = []
        for e in range(position, far):
            self.note_failure(far, e, vector, origin)
            moved = self.stepped(e, far, vector, origin)
            vector, origin = moved[0]
            added.extend([(e + 1, other, told) for other, told in moved[1:]])
        found = [(vector, origin)]
        # What a taken value adds comes behind the vector to which it is added.
        for behind, other, told in added:
            found.extend(self.walked(far, behind, other, told))
        return found

    def vectors(self, far, position):
        """Vectors whose sums of multiples are the space of a state."""
        if position == far:
            return self.tops[far].full_lines()
        found = self.bottoms[far].full_lines()
        # A state that no run comes to has nothing that a taken value could add to.
        if len(found) > 0:
            for e in range(position):
                found = self.layout.moved(e, far, found)
        return found


def settled(search, goal, alive, most):
    """Those of some choices that are right for all runs with at most so many failures, and runs that rule out others.

    The search goes on until no choice is left, or until it is done.
    """
    origins = []
    while len(alive) > 0 and not is_complete(search, most):
        search.advance()
        for vector, origin in search.fresh:
            rest = goal.right(search.layout, vector, alive)
            if len(rest) < len(alive):
                origins.append(origin)
                alive = rest
    return alive, origins


def is_complete(search, most):
    """Tells whether all runs with at most so many failures were looked at."""
    return search.is_done or search.level == most
