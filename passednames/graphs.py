"""The graph of all standings to which moves lead."""

from passednames.errors import TooGreat
from passednames.moving import moves_of, standings_behind
from passednames.names import AS_IS, need_given
from passednames.tables import Table
from passednames.threads import first_standing

MOST_STANDINGS = 60


def graph(program, given=AS_IS):
    """The pair (STANDINGS, ROWS) of a program; ROWS tells the moves with indexes of standings."""
    table = Table(program)
    first, _ = first_standing(table, need_given(given))
    return graph_from(table, first)


def how_many(program, given=AS_IS):
    """The number of the standings of a program."""
    standings, _ = graph(program, given)
    return len(standings)


def graph_from(table, first):
    """The pair (STANDINGS, ROWS) of what moves lead to from a standing."""
    standings = [first]
    places = {first: 0}
    rows = []
    while len(rows) < len(standings):
        row = moves_of(table, standings[len(rows)])
        for rest in standings_behind(row):
            if rest in places:
                continue
            if len(standings) == MOST_STANDINGS:
                raise TooGreat(MOST_STANDINGS)
            places[rest] = len(standings)
            standings.append(rest)
        rows.append(tuple([(action, with_indexes(rests, places)) for action, rests in row]))
    return (tuple(standings), tuple(rows))


def with_indexes(rests, places):
    """The rests with the places of their standings."""
    return tuple([(places[rest], keys) for rest, keys in rests])
