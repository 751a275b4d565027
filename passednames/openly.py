"""Open likeness: names may be joined later, at any moment."""

from passednames.errors import NoMove
from passednames.replies import demands_met, game_of
from passednames.rounds import rounds_of


def open_alike(one, other, apart=()):
    """Whether two programs are open alike."""
    game = game_of(one, other, apart)
    return game.first not in rounds_of(demands_met(game))


def open_round(one, other, apart=()):
    """The number of the first round in which the first joint standing does not stay."""
    game = game_of(one, other, apart)
    gone = rounds_of(demands_met(game))
    if game.first not in gone:
        raise NoMove()
    return gone[game.first]


def open_met(one, other, apart=()):
    """The ascending tuple of the joint standings that are met."""
    return tuple(sorted(list(demands_met(game_of(one, other, apart)))))
