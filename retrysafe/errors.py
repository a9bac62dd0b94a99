"""The errors of retrysafe. Their fields have the names of their arguments."""


class RetryError(ValueError):
    """The base of the errors about wrong values."""


class InvalidWidth(RetryError):
    """A width is not an integer in its range."""

    def __init__(self, value):
        self.value = value


class InvalidVectors(RetryError):
    """Vectors are not as described; the position is that of the first wrong one, or None."""

    def __init__(self, position):
        self.position = position


class InvalidSpace(RetryError):
    """An operand is not a space."""

    def __init__(self, value):
        self.value = value


class DifferentWidths(RetryError):
    """Two spaces have different widths."""

    def __init__(self, one, other):
        self.one = one
        self.other = other


class InvalidJob(RetryError):
    """An object is not a job; the part is the first one that does not apply, or None."""

    def __init__(self, part):
        self.part = part


class ParseError(RetryError):
    """A text is not the text of a job; the line is its number, or None."""

    def __init__(self, line):
        self.line = line


class InvalidMatrix(RetryError):
    """An object is not a matrix, or not one that fits."""

    def __init__(self, value):
        self.value = value


class InvalidValues(RetryError):
    """The values of the durable variables are not as described."""

    def __init__(self, value):
        self.value = value


class InvalidArguments(RetryError):
    """The values of the arguments are not as described."""

    def __init__(self, value):
        self.value = value


class InvalidTaken(RetryError):
    """The taken values are not as described."""

    def __init__(self, value):
        self.value = value


class InvalidMarks(RetryError):
    """An object is not marks, or marks of another job."""

    def __init__(self, value):
        self.value = value


class InvalidFar(RetryError):
    """A far is not an integer in its range."""

    def __init__(self, value):
        self.value = value


class InvalidPosition(RetryError):
    """A position is not an integer in its range."""

    def __init__(self, value):
        self.value = value


class InvalidCosts(RetryError):
    """The costs of the places are not as described."""

    def __init__(self, value):
        self.value = value


class InvalidPlan(RetryError):
    """A plan is not a tuple of positions."""

    def __init__(self, value):
        self.value = value


class InvalidRun(RetryError):
    """A run is not as described."""

    def __init__(self, value):
        self.value = value


class InvalidCount(RetryError):
    """A count is not an integer in its range."""

    def __init__(self, value):
        self.value = value


class InvalidStudy(RetryError):
    """An object is not a safe study without a limit of failures."""

    def __init__(self, value):
        self.value = value


class InvalidNetwork(RetryError):
    """The jobs of a network are not as described."""

    def __init__(self, value):
        self.value = value


class InvalidName(RetryError):
    """A text is not a name."""

    def __init__(self, value):
        self.value = value


class InvalidNumber(RetryError):
    """The number of a message is not an integer in its range."""

    def __init__(self, value):
        self.value = value


class InvalidIndex(RetryError):
    """An index is not that of statements that may be exchanged or joined."""

    def __init__(self, value):
        self.value = value


class InvalidPlaces(RetryError):
    """The places of a change are not as described."""

    def __init__(self, value):
        self.value = value


class InvalidWord(RetryError):
    """A word is not one of those that are asked for."""

    def __init__(self, value):
        self.value = value


class InvalidText(RetryError):
    """A text is not a string."""

    def __init__(self, value):
        self.value = value


class InvalidLine(RetryError):
    """A line of a console is not as described."""


class UnknownPlace(KeyError):
    """A job has no such place."""

    def __init__(self, value):
        self.value = value


class UnknownJob(KeyError):
    """A network has no job of this name."""

    def __init__(self, value):
        self.value = value


class UnknownRun(KeyError):
    """A run was not begun."""

    def __init__(self, run):
        self.run = run


class NoValue(LookupError):
    """A take is performed behind the last taken value."""

    def __init__(self, position):
        self.position = position


class AtEnd(LookupError):
    """A machine at its end makes no step."""

    def __init__(self, position):
        self.position = position


class Started(LookupError):
    """A machine has made moves already."""

    def __init__(self, position):
        self.position = position


class DuplicateRun(LookupError):
    """A run was begun before."""

    def __init__(self, run):
        self.run = run


class ClosedRun(LookupError):
    """A run is closed."""

    def __init__(self, run):
        self.run = run


class NoCopy(LookupError):
    """No copy of a message is under way."""

    def __init__(self, run, number):
        self.run = run
        self.number = number


class NotKept(LookupError):
    """The id of a message is not kept."""

    def __init__(self, run, number):
        self.run = run
        self.number = number


class StillNeeded(LookupError):
    """The id of a message may not be forgotten."""

    def __init__(self, run, number):
        self.run = run
        self.number = number


class NoJob(LookupError):
    """A console has no job."""


class NoMachine(LookupError):
    """A console has no machine."""


class TooLarge(OverflowError):
    """A job has more statements at the top than the limit."""

    def __init__(self, limit):
        self.limit = limit
