"""The words of likenesses."""

from passednames.errors import BadLikeness

EARLY_OR_LATE = ("early", "late")
ALL_FOUR = ("early", "late", "weak", "rooted")


def need_likeness(value, words):
    """Returns one of these words of likenesses; raises BadLikeness for anything else."""
    if not isinstance(value, str) or value not in words:
        raise BadLikeness(value)
    return value
