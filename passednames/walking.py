"""The walk through a value that is to be a program."""

from passednames.errors import BadPiece, BadProgram, TooGreat
from passednames.pieces import BRANCHES, PREFIXES, TESTS, WITH_NAMES, WITH_TWO_NAMES, free_of, parts_below
from passednames.plain import are_names, are_unlike, is_below, is_name, is_row_of, is_row_up_to

MOST_DEFINITIONS = 4
MOST_PARAMS = 4
MOST_BRANCHES = 20
MOST_BESIDE = 4
MOST_DEEP = 12
MOST_PARTS = 80
MOST_IN_ROW = 3

# Where a walk goes through: each lets other things.
BODY = "body"
MAIN = "main"
HOLED_MAIN = "holed main"
ROW_BODY = "row body"
ROW_MAIN = "row main"


def checked_parts(value, where_main):
    """The list of the pairs (path, part) in the order of the walk; raises what need_program raises."""
    need_definitions(value)
    definitions, main = value
    counts = tuple([len(params) for params, _ in definitions])
    where_body = ROW_BODY if where_main == ROW_MAIN else BODY
    met = []
    for place, (_, body) in enumerate(definitions):
        walk(body, (0, place, 1), counts, where_body, met)
    walk(main, (1,), counts, where_main, met)
    for place, (params, body) in enumerate(definitions):
        if not all([name in params for name in free_of(body)]):
            raise BadProgram((0, place))
    return met


def need_definitions(value):
    """Raises BadProgram unless this is a pair whose definitions have PARAMS as told."""
    if not is_row_of(value, 2):
        raise BadProgram(())
    if not is_row_up_to(value[0], MOST_DEFINITIONS):
        raise BadProgram((0,))
    for place, definition in enumerate(value[0]):
        if not is_row_of(definition, 2) or not are_params(definition[0]):
            raise BadProgram((0, place))


def are_params(value):
    """Whether this is a tuple of at most 4 unlike names."""
    return is_row_up_to(value, MOST_PARAMS) and are_names(value) and are_unlike(value)


def walk(root, root_path, counts, where, met):
    """Goes through a BODY or MAIN and puts each pair (path, part) behind those that are met."""
    # In MAIN a call may stand anywhere, so everything there counts as guarded.
    ahead = [(root_path, root, 1, False, where not in (BODY, ROW_BODY))]
    while ahead:
        path, part, deep, branch_due, guarded = ahead.pop()
        if deep > MOST_DEEP:
            raise TooGreat(MOST_DEEP)
        if len(met) == MOST_PARTS:
            raise TooGreat(MOST_PARTS)
        if not is_let(part, counts, where, branch_due, guarded):
            raise BadPiece(path)
        met.append((path, part))
        due = part[0] == "one" or part[0] in TESTS
        behind = guarded or part[0] in PREFIXES
        for indexes, below in reversed(parts_below(part)):
            ahead.append((path + indexes, below, deep + 1, due, behind))


def is_let(part, counts, where, branch_due, guarded):
    """Whether this, whatever is within, may stand at a place."""
    if is_hole(part):
        return where == HOLED_MAIN and not branch_due
    if not has_form(part, counts) and not (where in (ROW_BODY, ROW_MAIN) and has_form_of_row(part)):
        return False
    word = part[0]
    if branch_due:
        return word in BRANCHES
    if where in (BODY, ROW_BODY):
        return word != "beside" and (guarded or word != "call")
    return True


def is_hole(value):
    """Whether this is the hole of a surrounding."""
    return is_row_of(value, 1) and isinstance(value[0], str) and value[0] == "hole"


def has_form(value, counts):
    """Whether this has a form of pieces, whatever is within; counts has the numbers of PARAMS."""
    if not isinstance(value, tuple) or not value or not isinstance(value[0], str):
        return False
    word = value[0]
    if word in WITH_TWO_NAMES:
        return is_row_of(value, 4) and is_name(value[1]) and is_name(value[2])
    if word == "wait":
        return is_row_of(value, 2)
    if word == "one":
        return is_row_of(value, 2) and is_row_up_to(value[1], MOST_BRANCHES)
    if word == "beside":
        return is_row_of(value, 2) and is_row_up_to(value[1], MOST_BESIDE)
    if word == "new":
        return is_row_of(value, 3) and is_name(value[1])
    if word == "call":
        return is_row_of(value, 3) and is_call(value[1], value[2], counts)
    return False


def has_form_of_row(value):
    """Whether this has the form of a sends or takes, whatever is within."""
    if not is_row_of(value, 4) or not isinstance(value[0], str) or value[0] not in WITH_NAMES:
        return False
    word, channel, names, _ = value
    if not is_name(channel) or not is_row_up_to(names, MOST_IN_ROW) or not are_names(names):
        return False
    return word == "sends" or are_unlike(names)


def is_call(number, names, counts):
    """Whether there is a definition with this number and as many PARAMS as these names."""
    return is_below(number, len(counts)) and is_row_of(names, counts[number]) and are_names(names)
