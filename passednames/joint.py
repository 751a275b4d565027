"""Joint standings: two standings side by side, and which of their names never become one."""

from passednames.conditions import all_joinings
from passednames.errors import BadParameter, BadStanding, NotOpen, TooGreat
from passednames.plain import are_from_zero, are_unlike, is_below, is_row_of, is_row_up_to
from passednames.threads import MOST_THREADS, checked_standing


def need_open(tables):
    """Raises NotOpen with the path of the first unlike of some programs."""
    for table in tables:
        for path, part in table.parts.items():
            if part[0] == "unlike":
                raise NotOpen(path)


def need_apart(value):
    """Returns an ascending tuple of unlike pairs of names, the lesser one first."""
    if not are_pairs_apart(value, 10):
        raise BadParameter(value)
    return value


def are_pairs_apart(value, end):
    """Whether this is an ascending tuple of unlike pairs (A, B) of integers below end, A below B."""
    if not isinstance(value, tuple) or not all([is_pair_apart(item, end) for item in value]):
        return False
    return list(value) == sorted(set(value))


def is_pair_apart(value, end):
    """Whether this is a pair (A, B) of integers below end, A below B."""
    return is_row_of(value, 2) and is_below(value[1], end) and is_below(value[0], value[1])


def joint_of(first, other, classes, other_classes, apart):
    """The joint standing of two standings.

    classes has for each known number of the first one what its name is called, likewise
    other_classes; apart has the pairs of names, so called, that never become one.
    """
    every = classes + [name for name in other_classes if name not in classes]
    names = tuple([every.index(name) for name in other_classes])
    pairs = []
    for one, two in apart:
        if one in every and two in every:
            places = (every.index(one), every.index(two))
            pairs.append((min(places), max(places)))
    return (first, other, names, tuple(sorted(set(pairs))))


def how_many_names(joint):
    """The number of the names of a joint standing."""
    standing, _, names, _ = joint
    return max(standing[0], max(names, default=-1) + 1)


def joinings_of(joint):
    """The ascending list of the joinings of the names of a joint standing that may be.

    Raises what all_joinings raises, TooGreat(5), if it has more than 5 names.
    """
    return [joining for joining in all_joinings(how_many_names(joint)) if may_be(joint, joining)]


def may_be(joint, joining):
    """Whether a joining joins no names that never become one."""
    _, _, _, apart = joint
    return all([joining[one] != joining[two] for one, two in apart])


def has_form_of_joint(value):
    """Whether this is built as joint standings are, of tuples and integers from 0 on alone.

    Two such things that are equal are the same in kind, too, so they can be looked up.
    """
    if not is_row_of(value, 4) or not has_form_of_standing(value[0]) or not has_form_of_standing(value[1]):
        return False
    _, _, names, apart = value
    if not are_from_zero(names) or not isinstance(apart, tuple):
        return False
    return all([are_from_zero(pair) for pair in apart])


def has_form_of_standing(value):
    """Whether this is built as standings are, of tuples and integers from 0 on alone."""
    if not is_row_of(value, 3) or not are_from_zero(value[:2]) or not is_row_up_to(value[2], MOST_THREADS):
        return False
    threads = value[2]
    return all([is_row_of(thread, 2) and are_from_zero(thread[0]) and are_from_zero(thread[1]) for thread in threads])


def is_joint(tables, value):
    """Whether this is a joint standing of two programs."""
    if not is_row_of(value, 4) or not is_standing(tables[0], value[0]) or not is_standing(tables[1], value[1]):
        return False
    standing, other, names, apart = value
    if not are_from_zero(names) or len(names) != other[0] or not are_unlike(names):
        return False
    alone = [name for name in names if name >= standing[0]]
    if alone != list(range(standing[0], standing[0] + len(alone))):
        return False
    return are_pairs_apart(apart, standing[0] + len(alone))


def is_standing(table, value):
    """Whether this is a standing of a program."""
    try:
        checked_standing(table, value)
    except (BadStanding, TooGreat):
        return False
    return True
