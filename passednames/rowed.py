"""Row programs: they pass several names at once. Kinds keep rows within the program."""

from passednames.errors import BadKinds
from passednames.kinding import first_unfit
from passednames.programs import need_program
from passednames.singling import Singled
from passednames.tables import Table
from passednames.walking import ROW_MAIN, checked_parts


def need_row_program(value):
    """Returns a row program; raises what the walk through it finds first."""
    checked_parts(value, ROW_MAIN)
    return value


def need_inner(program):
    """Returns a row program whose names have kinds; raises BadKinds if what it tells of them can not hold."""
    return inner_table(program).program


def inner_table(program):
    """A row program, behind the checks of need_inner, with its parts by their paths."""
    table = Table(program, ROW_MAIN)
    path = first_unfit(table)
    if path is not None:
        raise BadKinds(path)
    return table


def singled(program):
    """The program in which rows pass name by name, each on a name of its own."""
    return need_program(Singled(need_inner(program)).program)
