"""What kind a value is, asked without trusting it."""


def is_integer(value):
    """Whether this is an integer; True and False are none."""
    return isinstance(value, int) and not isinstance(value, bool)


def is_from_zero(value):
    """Whether this is an integer from 0 on."""
    return is_integer(value) and value >= 0


def is_below(value, end):
    """Whether this is an integer from 0 to end - 1."""
    return is_from_zero(value) and value < end


def is_name(value):
    """Whether this is a name."""
    return is_below(value, 10)


def is_row_of(value, many):
    """Whether this is a tuple of exactly so many things."""
    return isinstance(value, tuple) and len(value) == many


def is_row_up_to(value, most):
    """Whether this is a tuple of at most so many things."""
    return isinstance(value, tuple) and len(value) <= most


def are_names(value):
    """Whether this is a tuple of names."""
    return isinstance(value, tuple) and all([is_name(item) for item in value])


def are_from_zero(value):
    """Whether this is a tuple of integers from 0 on."""
    return isinstance(value, tuple) and all([is_from_zero(item) for item in value])


def are_unlike(row):
    """Whether no two of these integers are equal."""
    return len(set(row)) == len(row)


def least_not_in(row):
    """The least integer from 0 on that is not in the row."""
    number = 0
    while number in row:
        number += 1
    return number
