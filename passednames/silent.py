"""Weak moves; weak and rooted likeness."""

from passednames.errors import Unlike
from passednames.names import AS_IS, need_given
from passednames.pairs import first_triple, pair_of
from passednames.rooted import rooted_demands
from passednames.rounds import always_stays, are_met, met_from, round_apart, rounds_from, staying
from passednames.sides import side_of
from passednames.tables import Table
from passednames.weakness import all_silent, weak_row


def weak_moves(program, given=AS_IS):
    """The tuple with, for each standing, the ascending tuple of its weak moves."""
    side = side_of(Table(program), need_given(given))
    silent = all_silent(side)
    return tuple([tuple([told_move(move) for move in weak_row(side, silent, index)]) for index in range(len(silent))])


def told_move(move):
    """A weak move as it is told: the rests of a take are a tuple for each name."""
    action, lists = move
    rests = tuple([tuple(pairs) for pairs in lists])
    return (action, rests if action[0] == "take" else rests[0])


def weak_triples(one, other, given=AS_IS):
    """The ascending tuple of the triples that are weakly met."""
    pair = pair_of(Table(one), Table(other), given, "weak")
    return tuple(sorted(met_from(pair, first_triple(pair))))


def alike_weak(one, other, given=AS_IS):
    """Whether two programs are weakly alike."""
    pair = pair_of(Table(one), Table(other), given, "weak")
    return always_stays(pair, first_triple(pair))


def rounds_weak(one, other, given=AS_IS):
    """The number of the first round in which the first triple does not stay."""
    return round_apart(pair_of(Table(one), Table(other), given, "weak"))


def alike_rooted(one, other, given=AS_IS):
    """Whether two programs are rooted alike."""
    pair = pair_of(Table(one), Table(other), given, "weak")
    _, gone = rounds_from(pair, first_triple(pair))
    return are_met(rooted_demands(pair), gone)


def weak_paper(one, other, given=AS_IS):
    """The ascending tuple of the weakly met triples that always stay, if the first one does."""
    paper, _ = staying(pair_of(Table(one), Table(other), given, "weak"))
    return paper


def rooted_paper(one, other, given=AS_IS):
    """The same tuple, if the programs are rooted alike."""
    pair = pair_of(Table(one), Table(other), given, "weak")
    paper, gone = staying(pair)
    if not are_met(rooted_demands(pair), gone):
        raise Unlike(0)
    return paper
