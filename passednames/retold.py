"""Standings told as programs."""

from passednames.errors import TooGreat
from passednames.names import AS_IS
from passednames.pieces import kept_or_least, with_names
from passednames.plain import least_not_in
from passednames.programs import need_program
from passednames.walking import MOST_BESIDE

MOST_NAMES = 10


def program_of_standing(table, standing, chosen):
    """The program whose MAIN is a standing; chosen has the free names for its known numbers."""
    known, own, threads = standing
    names = list(chosen)
    for _ in range(own):
        names.append(unused_name(names))
    pieces = []
    for path, numbers in threads:
        row = list(AS_IS)
        for name, number in zip(table.free[path], numbers):
            row[name] = names[number]
        pieces.append(with_names(table.parts[path], tuple(row), kept_or_least))
    main = beside_all(pieces)
    for name in reversed(names[known:]):
        main = ("new", name, main)
    return need_program((table.program[0], main))


def unused_name(names):
    """The least name that is none of these."""
    name = least_not_in(names)
    if name >= MOST_NAMES:
        raise TooGreat(MOST_NAMES)
    return name


def beside_all(pieces):
    """The piece in which all of these stand side by side."""
    if not pieces:
        return ("one", ())
    if len(pieces) == 1:
        return pieces[0]
    if len(pieces) <= MOST_BESIDE:
        return ("beside", tuple(pieces))
    return ("beside", (beside_all(pieces[:MOST_BESIDE]), beside_all(pieces[MOST_BESIDE:])))
