"""What integers, vectors and names are."""

_WORDS = ("store", "given", "local", "job", "end", "set", "take", "atomic", "repeat", "in", "send", "read")


def is_int(value):
    """Tells whether a value is an integer; True and False are none."""
    return isinstance(value, int) and not isinstance(value, bool)


def is_vector(value, width):
    """Tells whether a value is a vector of this width."""
    return isinstance(value, tuple) and len(value) == width and all([is_int(entry) for entry in value])


def is_name(value):
    """Tells whether a value is a name."""
    if not isinstance(value, str) or not 1 <= len(value) <= 8 or value in _WORDS:
        return False
    return all(["a" <= letter <= "z" for letter in value])


def are_names(value):
    """Tells whether a value is a tuple of different names."""
    if not isinstance(value, tuple) or not all([is_name(name) for name in value]):
        return False
    return len(set(value)) == len(value)
