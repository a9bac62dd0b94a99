"""Spaces: the sums of multiples of vectors."""

from retrysafe.bases import by_pivots, complement, pivot, reduced, remainder
from retrysafe.errors import DifferentWidths, InvalidSpace, InvalidVectors, InvalidWidth
from retrysafe.values import is_int, is_vector

_MOST_WIDTH = 128


def check_vectors(vectors, width):
    """Raises the error of vectors that are not a list or tuple of vectors of a width."""
    if not isinstance(vectors, (list, tuple)):
        raise InvalidVectors(None)
    for position, vector in enumerate(vectors):
        if not is_vector(vector, width):
            raise InvalidVectors(position)


def check_operands(one, other):
    """Raises the error of an operand that is not a space of the same width."""
    if not isinstance(other, Space):
        raise InvalidSpace(other)
    if one.width != other.width:
        raise DifferentWidths(one.width, other.width)


class Space:
    """The set of all sums of multiples, by fractions, of some vectors of one width."""

    def __init__(self, width, vectors=()):
        if not is_int(width) or not 1 <= width <= _MOST_WIDTH:
            raise InvalidWidth(width)
        check_vectors(vectors, width)
        self._width = width
        self._basis = reduced(vectors)
        self._rows = by_pivots(self._basis)

    @property
    def width(self):
        """The length of the vectors."""
        return self._width

    @property
    def basis(self):
        """The tuple of the vectors of the reduced basis, with ascending pivots."""
        return self._basis

    def __len__(self):
        return len(self._basis)

    def __contains__(self, vector):
        return is_vector(vector, self._width) and pivot(remainder(vector, self._rows)) is None

    def __or__(self, other):
        check_operands(self, other)
        return Space(self._width, self._basis + other.basis)

    def __and__(self, other):
        check_operands(self, other)
        # What two spaces have in common is at right angles to all that is so to either.
        rows = complement(self._basis, self._width) + complement(other.basis, self._width)
        return Space(self._width, complement(reduced(rows), self._width))

    def __invert__(self):
        return Space(self._width, complement(self._basis, self._width))

    def is_within(self, other):
        """Tells whether all vectors of this space are in the other one."""
        check_operands(self, other)
        return all([vector in other for vector in self._basis])

    def __eq__(self, other):
        return isinstance(other, Space) and self._width == other._width and self._basis == other._basis
