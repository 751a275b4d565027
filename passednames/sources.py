"""Where the names of a program come from, told from its text alone."""

from passednames.pieces import bound_names, parts_below
from passednames.plain import are_from_zero, is_integer, is_row_of

WORLD = ("world",)


class Flow:
    """What counts of a program, each name there told by its origin: a source, or a holder.

    sources and holders are ascending. sends has triples (path, origin of A, origin of B), takes
    triples (path, origin of A, holder), calls pairs (holder, origin of the name put in for it);
    given has the sources of the free names.
    """

    def __init__(self, table, given):
        reached = reached_definitions(table)
        params = [("param", number, place) for number in reached for place in range(len(table.program[0][number][0]))]
        parts = [(path, part) for path, part in table.parts.items() if path[0] == 1 or path[1] in reached]
        origins = origins_at(table, given, parts)
        self.given = [("given", given[name]) for name in table.free[(1,)]]
        self.sources = sorted(set([WORLD] + self.given + [("new", path) for path, part in parts if part[0] == "new"]))
        self.holders = sorted(params + [("take", path) for path, part in parts if part[0] == "take"])
        self.sends = []
        self.takes = []
        self.calls = []
        for path, part in parts:
            origin = origins[path]
            if part[0] == "send":
                self.sends.append((path, origin[part[1]], origin[part[2]]))
            if part[0] == "take":
                self.takes.append((path, origin[part[1]], ("take", path)))
            if part[0] == "call":
                self.calls.extend([(("param", part[1], place), origin[name]) for place, name in enumerate(part[2])])


def reached_definitions(table):
    """The ascending list of the numbers of the definitions that are called from MAIN, at last."""
    reached = []
    found = called_from(table, reached)
    while found != reached:
        reached = found
        found = called_from(table, reached)
    return reached


def called_from(table, numbers):
    """The ascending list of the numbers of the definitions that MAIN and these definitions call."""
    calls = [(path, part) for path, part in table.parts.items() if part[0] == "call"]
    return sorted(set([part[1] for path, part in calls if path[0] == 1 or path[1] in numbers]))


def origins_at(table, given, parts):
    """A dict with, for the path of each of these parts, the origins of the names there."""
    origins = {(1,): {name: ("given", given[name]) for name in table.free[(1,)]}}
    for number, (params, _) in enumerate(table.program[0]):
        origins[(0, number, 1)] = {name: ("param", number, place) for place, name in enumerate(params)}
    for path, part in parts:
        inner = dict(origins[path])
        for name in bound_names(part):
            inner[name] = (part[0], path)
        for indexes, _ in parts_below(part):
            origins[path + indexes] = inner
    return origins


def is_source(value, sources):
    """Whether a value of any kind is one of these sources."""
    if not isinstance(value, tuple) or not value or not isinstance(value[0], str):
        return False
    if value[0] == "given":
        is_told = is_row_of(value, 2) and is_integer(value[1])
    elif value[0] == "new":
        is_told = is_row_of(value, 2) and are_from_zero(value[1])
    else:
        is_told = len(value) == 1
    return is_told and value in sources


def is_holder(value, holder):
    """Whether a value of any kind is this holder."""
    if holder[0] == "take":
        is_told = is_row_of(value, 2) and isinstance(value[0], str) and are_from_zero(value[1])
    else:
        is_told = is_row_of(value, 3) and isinstance(value[0], str) and are_from_zero(value[1:])
    return is_told and value == holder
