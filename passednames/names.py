"""Names and rows of ten names."""

from passednames.errors import BadGiven, BadName
from passednames.plain import are_names, is_name, is_row_of

AS_IS = (0, 1, 2, 3, 4, 5, 6, 7, 8, 9)


def need_name(value):
    """Returns a name; raises BadName for anything else."""
    if not is_name(value):
        raise BadName(value)
    return value


def need_given(value):
    """Returns a tuple of ten names; raises BadGiven for anything else."""
    if not is_row_of(value, 10) or not are_names(value):
        raise BadGiven(value)
    return value
