"""Matrices, and what runs without failure mean."""

from retrysafe.bases import dot
from retrysafe.checks import check_numbers, check_plain_job
from retrysafe.errors import InvalidMatrix, InvalidTaken, InvalidVectors, InvalidWidth
from retrysafe.layouts import Layout, apply
from retrysafe.statements import is_row
from retrysafe.values import is_int, is_vector

_MOST_ROWS = 40


def are_rows(value):
    """Tells whether a value is what the rows of a matrix are."""
    if not is_row(value, 1, _MOST_ROWS) or not is_row(value[0], 1, _MOST_ROWS):
        return False
    return all([is_vector(row, len(value[0])) for row in value])


class Matrix:
    """Rows of integers, of equal length."""

    def __init__(self, rows):
        if not are_rows(rows):
            raise InvalidMatrix(rows)
        self._rows = rows

    @property
    def rows(self):
        """The tuple of the rows, which are tuples."""
        return self._rows

    @staticmethod
    def unit(size):
        """The matrix that changes no vector of this length."""
        if not is_int(size) or not 1 <= size <= _MOST_ROWS:
            raise InvalidWidth(size)
        return Matrix(tuple([tuple([int(row == column) for column in range(size)]) for row in range(size)]))

    def __mul__(self, other):
        if not isinstance(other, Matrix) or len(other.rows) != len(self._rows[0]):
            raise InvalidMatrix(other)
        columns = [[row[at] for row in other.rows] for at in range(len(other.rows[0]))]
        return Matrix(tuple([tuple([dot(row, column) for column in columns]) for row in self._rows]))

    def __call__(self, vector):
        if not is_vector(vector, len(self._rows[0])):
            raise InvalidVectors(None)
        return tuple([dot(row, vector) for row in self._rows])

    def __eq__(self, other):
        return isinstance(other, Matrix) and self._rows == other._rows


def meaning(job):
    """The matrix of a run without failure."""
    check_plain_job(job)
    layout = Layout(job, ())
    many = layout.many + layout.extra + len(layout.takers)
    columns = []
    for at in range(many):
        units = [int(at == other) for other in range(many)]
        # What one of these numbers adds is what the run makes of it alone, without the 1 for the constants.
        columns.append(ended(layout, units, 0))
    columns.append(ended(layout, [0] * many, 1))
    return Matrix(tuple([tuple([column[row] for column in columns]) for row in range(layout.many)]))


def plain_run(job, values, arguments, taken):
    """The values of the durable variables behind a run without failure."""
    check_plain_job(job)
    check_numbers(job, values, arguments)
    layout = Layout(job, ())
    if not is_vector(taken, len(layout.takers)):
        raise InvalidTaken(taken)
    return ended(layout, values + arguments + taken, 1)


def ended(layout, numbers, one):
    """What a run without failure makes of values, arguments and taken values, while `one` is the last entry."""
    behind = layout.many + layout.extra
    vector = layout.start(numbers[:layout.many], numbers[layout.many:behind])
    vector[-1] = one
    taken = list(numbers[behind:])
    for e in range(layout.length):
        apply(layout.program(e, e), vector, taken.pop(0) if e in layout.takers else 0)
    return tuple(vector[:layout.many])
