"""The words of rules, their arguments, and the likenesses that they keep."""

from passednames.plain import is_below, is_name

MOST_INDEX = 80
ARGUMENTS = {
    "order": ("index",), "bare": (), "once": ("index",), "never": ("index",), "split": ("index", "name", "name"),
    "join": ("index",), "drop": ("index",), "flat": ("index",), "out": ("index",), "meet": (), "swap": (),
    "forget": (), "turn": ("name",), "within": (), "pass": (), "exchange": (), "about": (), "same": ("side",),
    "early": ("index", "index", "name"), "hush": (), "ahead": ("index",), "reach": ("index", "index"),
}
LESS_WAITS = ("hush", "ahead", "reach")


def is_step_by_rule(value):
    """Whether this is a tuple of a rule's word, anything for the path, and arguments of the told kinds."""
    if not isinstance(value, tuple) or len(value) < 2 or not isinstance(value[0], str):
        return False
    if value[0] not in ARGUMENTS:
        return False
    kinds = ARGUMENTS[value[0]]
    if len(value) != 2 + len(kinds):
        return False
    return all([is_argument(item, kind) for item, kind in zip(value[2:], kinds)])


def is_argument(value, kind):
    """Whether this is an argument of this kind."""
    if kind == "name":
        return is_name(value)
    if kind == "side":
        return is_below(value, 2)
    return is_below(value, MOST_INDEX + 1)


def keeps(word, likeness):
    """Whether a rule keeps this one of the four likenesses."""
    if word in LESS_WAITS:
        return likeness in ("weak", "rooted")
    return word != "early" or likeness != "late"
