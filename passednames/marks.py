"""Marks: waits that go round all other moves of their standings."""

from passednames.plain import is_below, is_row_of
from passednames.runs import names_behind
from passednames.sides import waits_of
from passednames.weakness import names_passed, rest_for, told_ahead


def all_waits(side):
    """The ascending list of the pairs (I, M) of all waits."""
    return [(index, move) for index, row in enumerate(side.rows) for move, _ in waits_of(row)]


def are_waits(side, value):
    """Whether this is a tuple of pairs (I, M) of waits."""
    return isinstance(value, tuple) and all([is_wait(side, item) for item in value])


def is_wait(side, value):
    """Whether this is the pair (I, M) of a wait."""
    if not is_row_of(value, 2) or not is_below(value[0], len(side.rows)):
        return False
    index, move = value
    return is_below(move, len(side.rows[index])) and side.rows[index][move][0] == ("wait",)


def those_round(side, waits):
    """The list of those of some waits that go round each other move, if all of them are marked."""
    marked = {wait: True for wait in waits}
    return [wait for wait in waits if goes_round(side, marked, wait)]


def goes_round(side, marked, wait):
    """Whether a wait goes round each other move of its standing."""
    index, own_move = wait
    for place, move in enumerate(side.rows[index]):
        if place != own_move and not has_same_move(side, marked, wait, move):
            return False
    return True


def has_same_move(side, marked, wait, move):
    """Whether the standing behind a wait has a move that does the same as a move ahead of it."""
    index, own_move = wait
    _, rests = side.rows[index][own_move]
    behind, keys = rests[0]
    for action, others in side.rows[behind]:
        if move[0] != told_ahead(action, keys):
            continue
        joins = True
        for place, name in enumerate(names_passed(action, side.knowns[index])):
            other, inner = others[rest_for(action, keys, name)]
            joins = joins and comes_to(side, marked, move[1][place], (other, names_behind(keys, inner, name)))
        if joins:
            return True
    return False


def comes_to(side, marked, rest, wanted):
    """Whether a rest, or what a marked wait leads to from there, is the wanted one with the same names."""
    index, keys = rest
    if rest == wanted:
        return True
    for move, (behind, inner) in waits_of(side.rows[index]):
        if (index, move) in marked and (behind, tuple([keys[number] for number in inner])) == wanted:
            return True
    return False
