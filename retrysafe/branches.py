"""Branches: where the attempts of one run can lead, counted together where they lead to the same state."""

from retrysafe.layouts import apply


class Branches:
    """The states of a run behind its failures, numbered in the order in which they come up.

    A state is far and the vector behind a failure; number 0 is the run ahead of its first move.
    """

    def __init__(self, layout, vector):
        self.layout = layout
        self.numbers = {}
        self.reached = []
        self.fallen = []
        self.told_ends = []
        self.number_of(0, vector)

    def number_of(self, far, vector):
        """The number of a state."""
        state = (far, tuple(vector))
        if state not in self.numbers:
            self.numbers[state] = len(self.reached)
            self.reached.append(state)
            # Where its attempts lead is worked out when it is asked for.
            self.fallen.append(None)
            self.told_ends.append(None)
        return self.numbers[state]

    def end_of(self, number):
        """The durable variables' values at the end of an attempt from a state without failure."""
        if self.told_ends[number] is None:
            far, told = self.reached[number]
            vector = list(told)
            for e in range(self.layout.length):
                apply(self.layout.program(e, far), vector, 0)
                far = max(far, e + 1)
            self.told_ends[number] = tuple(vector[:self.layout.many])
        return self.told_ends[number]

    def behind(self, number):
        """The dict of the states behind one more failure, with the numbers of positions that lead to them."""
        if self.fallen[number] is None:
            far, told = self.reached[number]
            vector = list(told)
            found = {}
            for position in range(self.layout.length + 1):
                target = self.number_of(far, self.layout.dropped(vector))
                found[target] = found.get(target, 0) + 1
                if position < self.layout.length:
                    apply(self.layout.program(position, far), vector, 0)
                    far = max(far, position + 1)
            self.fallen[number] = found
        return self.fallen[number]

    def counted_ends(self, failures):
        """The dict from the values at the end to the number of plans with at most so many failures that end so."""
        found = {}
        counts = {0: 1}
        for left in range(failures, -1, -1):
            following = {}
            for number, many in counts.items():
                values = self.end_of(number)
                found[values] = found.get(values, 0) + many
                # Behind the last failure there are no more states to look at.
                if left > 0:
                    for target, times in self.behind(number).items():
                        following[target] = following.get(target, 0) + many * times
            counts = following
        return found
