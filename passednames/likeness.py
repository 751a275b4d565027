"""Early and late likeness."""

from passednames.errors import TooGreat
from passednames.names import AS_IS, need_given
from passednames.pairs import Pair, first_triple, pair_of
from passednames.rounds import always_stays, is_closed, round_apart, staying
from passednames.sides import side_of
from passednames.tables import Table
from passednames.words import EARLY_OR_LATE, need_likeness

MOST_EXCHANGED = 4


def alike(one, other, likeness, given=AS_IS):
    """Whether two programs are alike."""
    pair = pair_where(one, other, likeness, given)
    return always_stays(pair, first_triple(pair))


def rounds_apart(one, other, likeness, given=AS_IS):
    """The number of the first round in which the first triple does not stay."""
    return round_apart(pair_where(one, other, likeness, given))


def alike_paper(one, other, likeness, given=AS_IS):
    """The ascending tuple of the met triples that are alike, if the first one is."""
    paper, _ = staying(pair_where(one, other, likeness, given))
    return paper


def is_alike_paper(one, other, likeness, paper, given=AS_IS):
    """Whether a value of any kind is a paper that two programs are alike."""
    pair = pair_where(one, other, likeness, given)
    return is_closed(pair, paper) and first_triple(pair) in paper


def pair_where(one, other, likeness, given):
    """Two programs with their graphs, behind all checks."""
    first, second = Table(one), Table(other)
    return pair_of(first, second, given, need_likeness(likeness, EARLY_OR_LATE))


def exchanges(program, likeness, given=AS_IS):
    """The ascending tuple of the ways to exchange the first known names that change nothing."""
    pair = pair_of_one(program, likeness, given)
    known = pair.sides[0].knowns[0]
    if known > MOST_EXCHANGED:
        raise TooGreat(MOST_EXCHANGED)
    found = []
    for row in all_orders(known):
        if always_stays(pair, (0, 0, tuple(list(enumerate(row))))):
            found.append(row)
    return tuple(found)


def all_orders(many):
    """The ascending list of the tuples that have each number below many once."""
    found = [()]
    for _ in range(many):
        found = [row + (number,) for row in found for number in range(many) if number not in row]
    return found


def needed_names(program, likeness, given=AS_IS):
    """The ascending tuple of the given integers of the names without which a program is not alike itself."""
    pair = pair_of_one(program, likeness, given)
    names = pair.sides[0].first_names
    found = []
    for left_out, name in enumerate(names):
        others = [(number, number) for number in range(len(names)) if number != left_out]
        if not always_stays(pair, (0, 0, tuple(others))):
            found.append(name)
    return tuple(sorted(found))


def pair_of_one(program, likeness, given):
    """A program with its graph on both sides, behind all checks."""
    table = Table(program)
    need_likeness(likeness, EARLY_OR_LATE)
    side = side_of(table, need_given(given))
    return Pair(side, side, likeness)
