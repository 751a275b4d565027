"""Surroundings: programs with a hole, and programs put together."""

from passednames.errors import BadSurrounding, TooGreat
from passednames.pieces import bound_name, with_calls_moved, with_part_at
from passednames.programs import need_program
from passednames.walking import HOLED_MAIN, MOST_DEFINITIONS, checked_parts


def need_surrounding(value):
    """Returns a program with exactly one hole; raises BadSurrounding for another number of them."""
    holes = paths_of_holes(value)
    if len(holes) > 1:
        raise BadSurrounding(holes[1])
    if not holes:
        raise BadSurrounding(())
    return value


def paths_of_holes(value):
    """The list of the paths of the holes in the order of the walk; raises what need_program raises."""
    return [path for path, part in checked_parts(value, HOLED_MAIN) if part[0] == "hole"]


def hole_at(surrounding):
    """The path of the hole."""
    return paths_of_holes(need_surrounding(surrounding))[0]


def names_over(surrounding):
    """The ascending tuple of the names that are bound at the hole."""
    hole = hole_at(surrounding)
    around = [part for path, part in checked_parts(surrounding, HOLED_MAIN) if path == hole[:len(path)]]
    names = [bound_name(part) for part in around]
    return tuple(sorted(set([name for name in names if name is not None])))


def surrounded(surrounding, program):
    """The surrounding with the program's MAIN in its hole, and the definitions of both."""
    hole = hole_at(surrounding)
    need_program(program)
    definitions, main = behind_definitions(surrounding, program)
    return need_program((definitions, with_part_at(surrounding, hole, main)[1]))


def beside_of(one, other):
    """The program with MAIN of both side by side, and the definitions of both."""
    need_program(one)
    need_program(other)
    definitions, main = behind_definitions(one, other)
    return need_program((definitions, ("beside", (one[1], main))))


def behind_definitions(first, second):
    """The pair (definitions of both, MAIN of the second with calls of its own definitions there)."""
    many = len(first[0])
    moved = tuple([(params, with_calls_moved(body, many)) for params, body in second[0]])
    definitions = first[0] + moved
    if len(definitions) > MOST_DEFINITIONS:
        raise TooGreat(MOST_DEFINITIONS)
    return (definitions, with_calls_moved(second[1], many))
