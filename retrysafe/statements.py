"""The forms of sums and statements, and the order of the places and executions of a job.

`homes` is a dict with the durable variables and the locals, which statements write, as its keys:
the value of a durable variable is the name of its store, that of a local is None.
`readable` is the tuple of all names that sums may have.
"""

from retrysafe.values import is_int, is_name

# The least number of 101 digits; a product, as ../shared/LANGUAGE.md allows exponents up to 64 only.
_TOO_LONG = 10 ** 50 * 10 ** 50


def is_short(value):
    """Tells whether a value is an integer of at most 100 digits."""
    return is_int(value) and -_TOO_LONG < value < _TOO_LONG


def is_row(value, least, most):
    """Tells whether a value is a tuple with a length between these two."""
    return isinstance(value, tuple) and least <= len(value) <= most


def is_form(value, word, length):
    """Tells whether a value is a tuple of this length that begins with a word."""
    return is_row(value, length, length) and isinstance(value[0], str) and value[0] == word


def is_known(value, names):
    """Tells whether a value is one of some names."""
    return isinstance(value, str) and value in names


def is_term(value, readable):
    """Tells whether a value is a pair of a factor and a name."""
    return is_row(value, 2, 2) and is_short(value[0]) and value[0] != 0 and is_known(value[1], readable)


def is_sum(value, readable):
    """Tells whether a value is a sum over readable names."""
    if not is_form(value, "sum", 3) or not is_short(value[1]) or not isinstance(value[2], tuple):
        return False
    if not all([is_term(term, readable) for term in value[2]]):
        return False
    names = [name for _, name in value[2]]
    return all([one < other for one, other in zip(names, names[1:])])


def is_set(value, homes, readable):
    """Tells whether a value is a statement `set`."""
    return is_form(value, "set", 3) and is_known(value[1], homes) and is_sum(value[2], readable)


def is_take(value, homes):
    """Tells whether a value is a statement `take`."""
    return is_form(value, "take", 2) and is_known(value[1], homes)


def is_atomic(value, homes, readable):
    """Tells whether a value is a statement `atomic`."""
    if not is_form(value, "atomic", 2) or not is_row(value[1], 1, 4):
        return False
    if not all([is_set(part, homes, readable) or is_take(part, homes) for part in value[1]]):
        return False
    stores = [homes[part[1]] for part in value[1]]
    taken = [part for part in value[1] if part[0] == "take"]
    return len({store for store in stores if store is not None}) <= 1 and len(taken) <= 1


def is_send(value, readable):
    """Tells whether a value is a statement `send`."""
    if not is_form(value, "send", 3) or not is_name(value[1]) or not is_row(value[2], 0, 3):
        return False
    return all([is_sum(part, readable) for part in value[2]])


def is_simple(value, homes, readable):
    """Tells whether a value is a statement other than `repeat`."""
    if is_set(value, homes, readable) or is_take(value, homes):
        return True
    return is_atomic(value, homes, readable) or is_send(value, readable)


def is_repeat(value, homes, readable):
    """Tells whether a value is a statement `repeat`."""
    if not is_form(value, "repeat", 4) or not is_name(value[1]) or value[1] in readable:
        return False
    if not is_row(value[2], 1, 4) or not all([is_short(number) for number in value[2]]):
        return False
    within = readable + (value[1],)
    return is_row(value[3], 1, 4) and all([is_simple(step, homes, within) for step in value[3]])


def are_statements(value, homes, readable):
    """Tells whether a value is a tuple of statements."""
    if not isinstance(value, tuple):
        return False
    return all([is_simple(step, homes, readable) or is_repeat(step, homes, readable) for step in value])


def placed(steps):
    """The tuple of the statements at the places of a job."""
    found = []
    for step in steps:
        found.append(step)
        if step[0] == "repeat":
            found.extend(step[3])
    return tuple(found)


def unrolled(steps):
    """The tuple of the executions of a job, pairs of a place and the value of the item or None."""
    found = []
    place = 0
    for step in steps:
        if step[0] == "repeat":
            many = len(step[3])
            found.extend([(place + 1 + at, number) for number in step[2] for at in range(many)])
            place += 1 + many
        else:
            found.append((place, None))
            place += 1
    return tuple(found)


def rounds(steps):
    """For each execution the pair of the place of its `repeat`, None outside, and the position behind its round."""
    found = []
    place = 0
    for step in steps:
        if step[0] == "repeat":
            many = len(step[3])
            for _ in step[2]:
                end = len(found) + many
                found.extend([(place, end)] * many)
            place += 1 + many
        else:
            found.append((None, len(found) + 1))
            place += 1
    return tuple(found)


def parts(statement):
    """The `set` and `take` statements that are performed as one step; a `send` has none."""
    if sends(statement):
        return ()
    return statement[1] if statement[0] == "atomic" else (statement,)


def takes(statement):
    """Tells whether a statement other than `repeat` takes."""
    return "take" in [part[0] for part in parts(statement)]


def sends(statement):
    """Tells whether a statement sends."""
    return statement[0] == "send"
