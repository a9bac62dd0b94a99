"""Spaces that grow vector by vector, while runs are looked at."""

from math import gcd, lcm

from retrysafe.bases import primitive


class Echelon:
    """The sums of multiples of the vectors that were added.

    Its lines are vectors without their entries 0, dicts from positions to entries, because most entries are 0. They
    stand in a dict by their heads, and each has no entry at the heads of the others. The head of a line is the first
    of its positions in the order that is given.
    """

    def __init__(self, order):
        self.order = order
        self.lines = {}

    def rest(self, vector):
        """A multiple of a vector less multiples of the lines, without entries at their heads, as a list."""
        hit = [head for head in self.lines if vector[head] != 0]
        scale = 1
        for head in hit:
            lead = self.lines[head][head]
            scale = lcm(scale, lead // gcd(lead, vector[head]))
        found = [scale * entry for entry in vector] if scale > 1 else list(vector)
        for head in hit:
            line = self.lines[head]
            factor = found[head] // line[head]
            for at, entry in line.items():
                found[at] -= factor * entry
        return found

    def has(self, vector):
        """Tells whether a vector is among the sums."""
        return not any(self.rest(vector))

    def grow(self, vector):
        """Adds a vector, and returns what is new of it; None if it is among the sums already."""
        found = primitive(self.rest(vector))
        head = self.head_of(found)
        if head is None:
            return None
        line = {at: entry for at, entry in enumerate(found) if entry != 0}
        for other in list(self.lines):
            if head in self.lines[other]:
                self.lines[other] = without_head(self.lines[other], line, head)
        self.lines[head] = line
        return found

    def head_of(self, vector):
        """The first position in the order at which a vector has an entry, None for the zero vector."""
        for at in self.order:
            if vector[at] != 0:
                return at
        return None

    def full_lines(self):
        """The list of the lines as lists."""
        size = len(self.order)
        return [[line.get(at, 0) for at in range(size)] for line in list(self.lines.values())]


def without_head(line, other, head):
    """A line less a multiple of another one that has this head, without the entry there."""
    common = gcd(line[head], other[head])
    keep = other[head] // common
    less = line[head] // common
    found = {at: keep * entry for at, entry in line.items()}
    for at, entry in other.items():
        found[at] = found.get(at, 0) - less * entry
    divisor = 0
    for entry in found.values():
        divisor = gcd(divisor, entry)
    return {at: entry // divisor for at, entry in found.items() if entry != 0}
