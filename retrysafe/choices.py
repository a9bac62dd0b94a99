"""Choices of moments, and what the end of a run is compared with.

`alive` is a list of choices among which those are found for which ends are right.
"""

from retrysafe.bases import dot
from retrysafe.layouts import taking
from retrysafe.meanings import meaning
from retrysafe.values import is_vector


def choices_of(job):
    """The list of all choices of moments, in order."""
    found = [()]
    for e in taking(job):
        found = [choice + (moment,) for choice in found for moment in range(e, len(job))]
    return found


def is_choice(value, job):
    """Tells whether a value is a choice of moments of a job."""
    takers = taking(job)
    if not is_vector(value, len(takers)):
        return False
    return all([e <= moment < len(job) for e, moment in zip(takers, value)])


class Goal:
    """What a run without failure of a job means, as equations for the vectors of the ends of runs.

    `lines` are the rows of its meaning, where this is not that of the job by itself.
    """

    def __init__(self, job, lines=None):
        self.extra = len(job.arguments)
        self.takers = taking(job)
        self.choices = choices_of(job)
        self.lines = meaning(job).rows if lines is None else lines
        self.many = len(self.lines)

    def forms(self, layout, choice):
        """For each durable variable the form that has to be 0 at the end, if these moments are chosen."""
        found = []
        behind = self.many + self.extra
        for at, line in enumerate(self.lines):
            form = [0] * layout.size
            form[at] = 1
            for column in range(behind):
                form[self.many + column] = -line[column]
            for column, e in enumerate(self.takers):
                form[layout.spots["seen", e, choice[column]]] = -line[behind + column]
            form[-1] = -line[-1]
            found.append(form)
        return found

    def right(self, layout, vector, alive):
        """Those of some choices for which the end is right that has this vector."""
        behind = self.many + self.extra
        ahead = vector[self.many:self.many + behind]
        rests = []
        for at, line in enumerate(self.lines):
            rests.append(vector[at] - line[-1] * vector[-1] - dot(line, ahead))
        if len(self.takers) == 0:
            return alive if not any([rest != 0 for rest in rests]) else []
        shares = []
        for column, e in enumerate(self.takers):
            factors = [line[behind + column] for line in self.lines]
            worths = [vector[layout.spots["seen", e, moment]] for moment in range(e, layout.length)]
            shares.append([[factor * worth for factor in factors] for worth in worths])
        return [choice for choice in alive if self.is_met(choice, rests, shares)]

    def is_met(self, choice, rests, shares):
        """Tells whether what the chosen moments add to the durable variables is what is left of them."""
        added = [shares[column][moment - e] for column, (e, moment) in enumerate(zip(self.takers, choice))]
        return rests == [sum(column) for column in zip(*added)]
