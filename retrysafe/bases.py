"""Reduced bases: what the property `basis` of a space is.

While a basis is found, its vectors stand in a dict by their pivots.
"""

from math import gcd, lcm


def pivot(vector):
    """The position of the first entry that is not 0, None for the zero vector."""
    for at, entry in enumerate(vector):
        if entry != 0:
            return at
    return None


def primitive(vector):
    """The vector divided by the greatest common divisor of its entries; the zero vector itself."""
    divisor = 0
    for entry in vector:
        divisor = gcd(divisor, entry)
        if divisor == 1:
            return vector
    if divisor == 0:
        return vector
    return tuple([entry // divisor for entry in vector])


def dot(one, other):
    """The sum of the products of the entries of two vectors."""
    return sum([ours * theirs for ours, theirs in zip(one, other)])


def by_pivots(basis):
    """The dict of the vectors of a reduced basis by their pivots."""
    return {pivot(row): row for row in basis}


def remainder(vector, rows):
    """A multiple of a vector less multiples of the rows, with 0 at their pivots."""
    hit = [at for at in rows if vector[at] != 0]
    # The least multiple that needs no fractions keeps the numbers short.
    scale = 1
    for at in hit:
        head = rows[at][at]
        scale = lcm(scale, head // gcd(head, vector[at]))
    rest = [scale * entry for entry in vector]
    for at in hit:
        row = rows[at]
        factor = scale * vector[at] // row[at]
        rest = [ours - factor * theirs for ours, theirs in zip(rest, row)]
    return tuple(rest)


def cleared(row, vector, at):
    """A row plus multiples of a vector with a positive entry at its pivot, with 0 there."""
    if row[at] == 0:
        return row
    common = gcd(row[at], vector[at])
    keep = vector[at] // common
    less = row[at] // common
    return primitive(tuple([keep * ours - less * theirs for ours, theirs in zip(row, vector)]))


def reduced(vectors):
    """The reduced basis of the sums of multiples of vectors."""
    rows = {}
    for vector in vectors:
        if len(rows) == len(vector):
            break
        rest = primitive(remainder(vector, rows))
        at = pivot(rest)
        if at is not None:
            if rest[at] < 0:
                rest = tuple([-entry for entry in rest])
            rows = {other: cleared(rows[other], rest, at) for other in rows}
            rows[at] = rest
    return tuple([rows[at] for at in sorted(rows)])


def complement(basis, width):
    """The reduced basis of the vectors whose sums of products with all vectors of a basis are 0."""
    # Of rows that are reduced from their ends, the solutions are a reduced basis straight away.
    rows = by_pivots(reduced([row[::-1] for row in basis]))
    free = [at for at in range(width) if at not in rows]
    return tuple([solution(rows, at, width)[::-1] for at in free[::-1]])


def solution(rows, free, width):
    """The primitive vector that is positive at one free position and 0 at the others, with products 0."""
    scale = 1
    for at in rows:
        head = rows[at][at]
        scale = lcm(scale, head // gcd(head, rows[at][free]))
    found = [0] * width
    found[free] = scale
    for at in rows:
        found[at] = -rows[at][free] * scale // rows[at][at]
    return tuple(found)
