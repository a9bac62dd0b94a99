"""Sieves: which places of a job are enough if they are marked, tried with what ruled out others ahead of them."""

from retrysafe.choices import Goal
from retrysafe.layouts import Layout
from retrysafe.marks import total_cost
from retrysafe.refutations import remaining, ruling_out
from retrysafe.searches import Search, begun_runs, settled


def priced_choices(job, costs):
    """The pairs (cost, places) of all choices of places, in order."""
    found = [()]
    for place in range(job.places):
        found = found + [places + (place,) for places in found]
    return sorted([(total_cost(places, costs), places) for places in found])


class Sieve:
    """A job, and runs that rule out places of it.

    Sieves of jobs with the same stores, arguments and numbers of executions and takes may share a list of runs.
    """

    def __init__(self, job, runs):
        self.goal = Goal(job)
        self.subject = job
        self.runs = runs

    def falling(self, places, failures):
        """None if marked places are enough against so many failures.

        Otherwise the number of failures at which a search has found that they are not, -1 if known runs tell it.
        """
        layout = Layout(self.subject, places)
        # What ruled out the last places rules out the next ones most often.
        alive = remaining(self.goal, layout, self.runs[::-1], self.goal.choices)
        search = Search(layout, begun_runs(layout))
        rest, origins = settled(search, self.goal, alive, failures)
        if len(rest) > 0:
            return None
        self.runs.extend(ruling_out(self.goal, layout, alive, origins))
        return search.level
