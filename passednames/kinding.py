"""Kinds of the names of a row program: which are one, and what they carry."""

from passednames.pieces import TESTS, bound_names, own_names, parts_below

SINGLE = "single"
ROW = "row"
# The number of the kind of all free names of MAIN.
OUT = 0


class Kinds:
    """Kinds by numbers.

    over has for each kind one with which it is one, itself for one that stands for all of these;
    carried has for such a one the pair (SINGLE or ROW, numbers of what it carries), None if that
    is not known.
    """

    def __init__(self):
        self.over = [OUT]
        self.carried = [(SINGLE, (OUT,))]


def new_kind(kinds, carried):
    """The number of a kind that is none of those so far."""
    kinds.over.append(len(kinds.over))
    kinds.carried.append(carried)
    return len(kinds.over) - 1


def one_for(kinds, kind):
    """The kind that stands for all that are one with this one."""
    while kinds.over[kind] != kind:
        kind = kinds.over[kind]
    return kind


def can_be_one(kinds, first, second):
    """Makes two kinds one, and what they carry; whether this can be."""
    ahead = [(first, second)]
    while ahead:
        one, other = [one_for(kinds, kind) for kind in ahead.pop()]
        carried, other_carried = kinds.carried[one], kinds.carried[other]
        if one == other:
            continue
        kinds.over[other] = one
        if carried is None:
            kinds.carried[one] = other_carried
        elif other_carried is not None:
            if carried[0] != other_carried[0] or len(carried[1]) != len(other_carried[1]):
                return False
            ahead.extend(list(zip(carried[1], other_carried[1])))
    return True


def first_unfit(table):
    """The path of the first piece with which what is told of the kinds can not hold, None if it can."""
    kinds = Kinds()
    params = [{param: new_kind(kinds, None) for param in row} for row, _ in table.program[0]]
    # The kinds of the names at each path; those around a part are told ahead of it.
    at_paths = {(0, number, 1): scope for number, scope in enumerate(params)}
    at_paths[(1,)] = {name: OUT for name in table.free[(1,)]}
    for path, part in table.parts.items():
        scope = at_paths[path]
        inner = dict(scope)
        for name in bound_names(part):
            inner[name] = new_kind(kinds, None)
        for first, second in to_be_one(kinds, part, scope, inner, params):
            if not can_be_one(kinds, first, second):
                return path
        for indexes, _ in parts_below(part):
            at_paths[path + indexes] = inner
    return None


def to_be_one(kinds, part, scope, inner, params):
    """The list of the pairs of kinds that a piece tells to be one; inner has those of the names it binds."""
    word = part[0]
    if word in TESTS:
        return [(scope[part[1]], scope[part[2]])]
    if word == "call":
        return list(zip(params[part[1]].values(), [scope[name] for name in part[2]]))
    if word in ("send", "sends"):
        return [(scope[part[1]], new_kind(kinds, carried_by(word, [scope[name] for name in own_names(part)[1:]])))]
    if word in ("take", "takes"):
        return [(scope[part[1]], new_kind(kinds, carried_by(word, [inner[name] for name in bound_names(part)])))]
    return []


def carried_by(word, numbers):
    """What a kind carries on which this is sent or taken by this word."""
    return (SINGLE if word in ("send", "take") else ROW, tuple(numbers))
