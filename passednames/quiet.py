"""Papers of weak and rooted likeness, idle waits and marks."""

from passednames.marks import all_waits, are_waits, those_round
from passednames.names import AS_IS, need_given
from passednames.pairs import Pair, first_triple, pair_of
from passednames.rooted import rooted_demands
from passednames.rounds import always_stays, are_met_by, is_closed, unlike_ones
from passednames.sides import side_of
from passednames.tables import Table


def is_weak_paper(one, other, paper, given=AS_IS):
    """Whether a value of any kind is a paper that two programs are weakly alike."""
    pair = pair_of(Table(one), Table(other), given, "weak")
    return is_closed(pair, paper) and first_triple(pair) in paper


def is_rooted_paper(one, other, paper, given=AS_IS):
    """Whether a value of any kind is a paper that two programs are rooted alike."""
    pair = pair_of(Table(one), Table(other), given, "weak")
    return is_closed(pair, paper) and are_met_by(rooted_demands(pair), paper)


def idle_waits(program, given=AS_IS):
    """The ascending tuple of the pairs (I, M) of the waits that change nothing."""
    side = side_of(Table(program), need_given(given))
    pair = Pair(side, side, "weak")
    return tuple([wait for wait in all_waits(side) if always_stays(pair, triple_over(side, wait))])


def triple_over(side, wait):
    """The triple of the standings ahead of a wait and behind it, names being one with what they come from."""
    index, move = wait
    _, rests = side.rows[index][move]
    behind, keys = rests[0]
    return (index, behind, tuple(sorted([(key, number) for number, key in enumerate(keys)])))


def are_marks(program, value, given=AS_IS):
    """Whether a value of any kind is a tuple of marks."""
    side = side_of(Table(program), need_given(given))
    if not are_waits(side, value):
        return False
    marks = unlike_ones(value)
    return len(those_round(side, marks)) == len(marks)


def greatest_marks(program, given=AS_IS):
    """The ascending tuple of all pairs (I, M) that are in some marks."""
    side = side_of(Table(program), need_given(given))
    marks = all_waits(side)
    left = those_round(side, marks)
    while len(left) < len(marks):
        marks = left
        left = those_round(side, marks)
    return tuple(marks)
