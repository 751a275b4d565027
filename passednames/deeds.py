"""Deeds: steps and joins, and what a house holds behind them."""

from passednames.conditions import join
from passednames.errors import BadDeed, NoMove
from passednames.moving import moves_of
from passednames.plain import are_from_zero, is_row_of
from passednames.runs import taken_step

MOST_DEEDS = 60


class Held:
    """What a house holds behind a deed.

    now is the standing, called has the world's names of its known numbers, greatest is the greatest
    name in use, done the deed's action as a run tells it.
    """

    def __init__(self, now, called, greatest, done):
        self.now = now
        self.called = called
        self.greatest = greatest
        self.done = done


def is_join(value):
    """Whether this is ("join", A, B) with unlike names."""
    if not is_row_of(value, 3) or not isinstance(value[0], str) or value[0] != "join":
        return False
    return are_from_zero(value[1:]) and value[1] != value[2]


def is_deed(value):
    """Whether this is a step or a join."""
    return is_join(value) or (are_from_zero(value) and len(value) in (2, 3))


def need_deeds(value):
    """Raises BadDeed unless this is a tuple of at most 60 deeds."""
    if not isinstance(value, tuple):
        raise BadDeed(0)
    if len(value) > MOST_DEEDS:
        raise BadDeed(MOST_DEEDS)
    for place, deed in enumerate(value):
        if not is_deed(deed):
            raise BadDeed(place)


def held_behind(table, held, deed):
    """What a house holds behind a deed; NoMove if it is refused."""
    if is_join(deed):
        return held_joined(held, deed)
    taken = taken_step(moves_of(table, held.now), held.called, held.greatest, deed)
    if taken is None:
        raise NoMove()
    return Held(taken.rest[0], taken.held, taken.greatest, taken.told)


def held_joined(held, deed):
    """What a house holds behind a join of two known names."""
    _, one, other = deed
    if one not in held.called or other not in held.called:
        raise NoMove()
    first, second = sorted([held.called.index(one), held.called.index(other)])
    joining = [first if number == second else number for number in range(len(held.called))]
    standing, keys = join(held.now, joining)
    names = [min(one, other) if key == first else held.called[key] for key in keys]
    return Held(standing, tuple(names), held.greatest, deed)
