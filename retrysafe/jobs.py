"""Jobs: what is run again and again."""

from retrysafe.errors import InvalidJob, UnknownPlace
from retrysafe.statements import are_statements, is_row, placed, sends, takes, unrolled
from retrysafe.values import are_names, is_int, is_name

_MOST_STORES = 3
_MOST_VARIABLES = 5
_MOST_ARGUMENTS = 3
_MOST_TEMPS = 3
_MOST_PLACES = 9
_MOST_EXECUTIONS = 16
_MOST_TAKES = 2
_MOST_SENDS = 3


def is_store(value):
    """Tells whether a value is a pair of a name and one or more names of variables."""
    return is_row(value, 2, 2) and is_name(value[0]) and are_names(value[1]) and len(value[1]) > 0


def are_stores(value):
    """Tells whether a value is what the stores of a job are."""
    if not is_row(value, 1, _MOST_STORES) or not all([is_store(store) for store in value]):
        return False
    variables = durable(value)
    if not are_names(tuple([name for name, _ in value])) or not are_names(variables):
        return False
    return len(variables) <= _MOST_VARIABLES


def are_locals(value, most, ahead):
    """Tells whether a value is a tuple of at most so many names that are not among those ahead."""
    return are_names(value) and len(value) <= most and not any([name in ahead for name in value])


def durable(stores):
    """The tuple of the variables of all stores, in order."""
    return tuple([name for _, variables in stores for name in variables])


def writable(stores, temps):
    """The dict of the durable variables with the names of their stores, and of the locals with None."""
    homes = {name: store for store, variables in stores for name in variables}
    for name in temps:
        homes[name] = None
    return homes


def check_size(executions, statements):
    """Raises the error of a job with too many executions."""
    performed = [statements[place] for place, _ in executions]
    taking = [statement for statement in performed if takes(statement)]
    sending = [statement for statement in performed if sends(statement)]
    if len(performed) > _MOST_EXECUTIONS or len(taking) > _MOST_TAKES or len(sending) > _MOST_SENDS:
        raise InvalidJob("size")


class Job:
    """Durable variables in stores, arguments, locals, and the steps that change them."""

    def __init__(self, stores, arguments, temps, steps):
        if not are_stores(stores):
            raise InvalidJob("stores")
        variables = durable(stores)
        if not are_locals(arguments, _MOST_ARGUMENTS, variables):
            raise InvalidJob("arguments")
        if not are_locals(temps, _MOST_TEMPS, variables + arguments):
            raise InvalidJob("temps")
        if not are_statements(steps, writable(stores, temps), variables + arguments + temps):
            raise InvalidJob("steps")
        statements = placed(steps)
        if len(statements) > _MOST_PLACES:
            raise InvalidJob("steps")
        executions = unrolled(steps)
        check_size(executions, statements)
        self._stores = stores
        self._arguments = arguments
        self._temps = temps
        self._steps = steps
        self._variables = variables
        self._statements = statements
        self._executions = executions

    @property
    def stores(self):
        """The tuple of the pairs of the name of a store and the tuple of its variables."""
        return self._stores

    @property
    def arguments(self):
        """The tuple of the names of the arguments."""
        return self._arguments

    @property
    def temps(self):
        """The tuple of the names of the locals."""
        return self._temps

    @property
    def steps(self):
        """The tuple of the statements at the top."""
        return self._steps

    @property
    def variables(self):
        """The tuple of the names of all durable variables."""
        return self._variables

    @property
    def executions(self):
        """The tuple of the pairs of a place and the value of the item, None outside of repeats."""
        return self._executions

    @property
    def places(self):
        """The number of places."""
        return len(self._statements)

    def statement(self, place):
        """The statement at a place."""
        if not is_int(place) or not 0 <= place < len(self._statements):
            raise UnknownPlace(place)
        return self._statements[place]

    def __len__(self):
        return len(self._executions)

    def __eq__(self, other):
        return (isinstance(other, Job) and self._stores == other._stores and self._arguments == other._arguments
                and self._temps == other._temps and self._steps == other._steps)
