"""Standings: the first one, the check, and how they come from threads."""

from passednames.errors import BadIndex, BadParameter
from passednames.names import AS_IS, need_given
from passednames.plain import are_from_zero, are_unlike
from passednames.tables import Table
from passednames.threads import checked_standing, first_standing, is_thread, need_small, opened, settle


def start(program, given=AS_IS):
    """The pair (STANDING, KEYS) of the first standing; KEYS has the integers that are given."""
    table = Table(program)
    return first_standing(table, need_given(given))


def need_standing(program, value):
    """Returns a standing of the program, whether moves lead to it or not."""
    return checked_standing(Table(program), value)


def threads_of(program, path, numbers):
    """The tuple of the threads of a part whose free names have these numbers."""
    table = Table(program)
    if not are_from_zero(path) or path not in table.parts:
        raise BadIndex(path)
    free = table.free[path]
    if not are_from_zero(numbers) or len(numbers) != len(free):
        raise BadParameter(numbers)
    row = {name: number for name, number in zip(free, numbers)}
    return tuple(opened(table, path, row, list(numbers)))


def settled(program, threads, known):
    """The pair (STANDING, KEYS) of these threads, the integers of known being known."""
    table = Table(program)
    if not isinstance(threads, tuple) or not all([is_thread(table, thread) for thread in threads]):
        raise BadParameter(threads)
    if not are_from_zero(known) or not are_unlike(known):
        raise BadParameter(known)
    standing, keys = settle(threads, known)
    need_small([standing])
    return (standing, keys)
