"""Whether any value has a plain form, so that no check has to trust what it is given."""


def is_integer_in(value, least, most):
    """Return whether value is an integer from least to most."""
    # To Python a boolean is an integer, too; to the program it is none.
    return isinstance(value, int) and not isinstance(value, bool) and least <= value <= most


def is_index(value, many):
    """Return whether value is the index of one of so many things."""
    return is_integer_in(value, 0, many - 1)


def is_tuple_of(value, least, most):
    """Return whether value is a tuple of least to most parts."""
    return isinstance(value, tuple) and least <= len(value) <= most


def is_ascending(values):
    """Return whether each of the values is greater than the one before it."""
    return all([before < value for before, value in zip(values, values[1:])])
