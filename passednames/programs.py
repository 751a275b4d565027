"""Programs: the check, their parts, other names for their names."""

from passednames.errors import BadIndex, NotFinite
from passednames.names import AS_IS, need_given
from passednames.pieces import depth_below, free_of, kept_or_least, next_number, with_names, with_part_at
from passednames.plain import are_from_zero
from passednames.walking import MAIN, checked_parts


def need_program(value):
    """Returns a program; raises what the walk through it finds first."""
    checked_parts(value, MAIN)
    return value


def need_finite(program):
    """Returns a program without a call in MAIN; raises NotFinite with the path of the first one."""
    calls = paths_of_calls(program)
    if calls:
        raise NotFinite(calls[0])
    return program


def is_finite(program):
    """Whether no call stands in MAIN."""
    return not paths_of_calls(program)


def paths_of_calls(program):
    """The list of the paths of the calls in MAIN, in the order of the walk."""
    return [path for path, part in checked_parts(program, MAIN) if path[0] == 1 and part[0] == "call"]


def free_names(program):
    """The ascending tuple of the free names of MAIN."""
    return free_of(need_program(program)[1])


def measures(program):
    """How many parts a program has, and how deep its deepest BODY or MAIN is."""
    many = len(parts_of(program))
    definitions, main = program
    depths = [depth_below(body) for _, body in definitions]
    return (many, max([depth_below(main)] + depths))


def parts_of(program):
    """The list of the pairs (path, part) in the order of the walk."""
    return checked_parts(program, MAIN)


def part_at(program, path):
    """The part with this path."""
    parts = dict(parts_of(program))
    if not are_from_zero(path) or path not in parts:
        raise BadIndex(path)
    return parts[path]


def put_at(program, path, part):
    """The program with any value in the place of the part with this path, if that is a program."""
    part_at(program, path)
    return need_program(with_part_at(program, path, part))


def renamed(program, given):
    """The program with given[X] in the place of each free name X of MAIN, catching none."""
    need_program(program)
    need_given(given)
    return (program[0], with_names(program[1], given, kept_or_least))


def same_but_bound(one, other):
    """Whether two programs are alike but for PARAMS and bound names."""
    need_program(one)
    need_program(other)
    return without_bound_names(one) == without_bound_names(other)


def without_bound_names(program):
    """What a program is, each bound name being told by how many names are bound around it."""
    definitions, main = program
    bodies = [(len(params), numbered(body, params)) for params, body in definitions]
    return (bodies, numbered(main, ()))


def numbered(piece, params):
    """The piece with numbers from 10 on for its PARAMS and bound names."""
    row = AS_IS
    for param in params:
        row = row[:param] + (next_number(piece, row),) + row[param + 1:]
    return with_names(piece, row, next_number)
