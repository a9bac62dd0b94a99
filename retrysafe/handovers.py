"""Handovers: what a new job takes over from the runs of an old one."""

from retrysafe.layouts import Layout, written_temps
from retrysafe.runs import Run, begun
from retrysafe.searches import Search, begun_runs
from retrysafe.statements import rounds


def performed_at(job, place):
    """The executions of a place."""
    return [e for e, (other, _) in enumerate(job.executions) if other == place]


def round_ends(job, place):
    """The positions at the ends of the rounds of the `repeat` at a place."""
    return sorted(set([end for around, end in rounds(job.steps) if around == place]))


class Past:
    """All runs of a job with marked places that are broken off behind a failure."""

    def __init__(self, job, places):
        self.subject = job
        self.marked = places
        self.layout = Layout(job, places)
        self.search = Search(self.layout, begun_runs(self.layout))

    def broken(self, far):
        """What suffices for all these runs with a far: vectors, each with the values, the arguments and the plan."""
        while not self.search.is_done:
            self.search.advance()
        found = []
        for vector, origin in self.search.begun if far == 0 else self.search.landed[far]:
            beginning, plan, _ = origin
            found.append((vector, beginning + (plan,)))
        return found


class Handover:
    """A new job with marked places whose places take over from those of a past; `sources` tells from which."""

    def __init__(self, past, job, places, sources):
        self.past = past
        self.subject = job
        self.marked = places
        self.sources = sources

    def source_of(self, place):
        """The marked place of the old job from which a marked place of the new one takes over, or None."""
        if place not in self.marked or self.sources[place] not in self.past.marked:
            return None
        return self.sources[place]

    def sourced(self, far):
        """The pairs of an execution of the new job and one of the old job, with a far, that it takes over."""
        found = []
        for place in self.marked:
            if self.source_of(place) is not None:
                olds = performed_at(self.past.subject, self.source_of(place))
                news = performed_at(self.subject, place)
                found.extend([(e, old) for e, old in zip(news, olds) if old < far])
        return found

    def ended_rounds(self, far):
        """The executions of the new job in the rounds that it takes over from the old job with a far."""
        found = []
        around = rounds(self.subject.steps)
        for place in self.marked:
            if self.source_of(place) is not None:
                olds = round_ends(self.past.subject, self.source_of(place))
                news = round_ends(self.subject, place)
                ends = [end for end, old in zip(news, olds) if old <= far]
                found.extend([e for e, (other, end) in enumerate(around) if other == place and end in ends])
        return found

    def layout_behind(self, far):
        """The layout of the new job behind the old one with a far."""
        found = Layout(self.subject, self.marked)
        over = [e for e, _ in self.sourced(far)] + self.ended_rounds(far)
        # What is taken over is passed over with whatever far the new job has.
        found.limits = [0 if e in over else limit for e, limit in enumerate(found.limits)]
        return found

    def changed(self, layout, far, vector):
        """The vector ahead of the new job that a vector behind the old job, with a far, becomes."""
        before = self.past.layout
        begin = 2 * before.many + before.extra
        found = list(vector[:begin]) + [0] * (layout.size - begin - 1) + [vector[-1]]
        for e, old in self.sourced(far):
            for name in written_temps(self.subject, self.subject.executions[e][0]):
                if ("kept", old, name) in before.spots:
                    found[layout.spots["kept", e, name]] = vector[before.spots["kept", old, name]]
        return found

    def ahead(self, far):
        """The search of the runs of the new job behind the old one with a far."""
        layout = self.layout_behind(far)
        found = []
        for vector, beginning in self.past.broken(far):
            found.append((self.changed(layout, far, vector), (beginning, (), ())))
        return Search(layout, found)

    def first_wrong(self, far, goal):
        """A run, changed with this far, that ends otherwise than a goal tells, None if there is none."""
        search = self.ahead(far)
        while not search.is_done:
            search.advance()
            for vector, origin in search.fresh:
                if len(goal.right(search.layout, vector, goal.choices)) == 0:
                    beginning, later, _ = origin
                    return beginning + (later,)
        return None

    def ended(self, run):
        """The run of the new job at the end of a changed run."""
        values, arguments, plan, later = run
        before = begun(self.past.layout, values, arguments, ())
        before.fall(plan)
        layout = self.layout_behind(before.reach)
        found = Run(layout, self.changed(layout, before.reach, before.vector), ())
        found.follow(later)
        return found
