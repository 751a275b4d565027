"""A program as one side of a comparison: its graph, and the names that are given to it."""

from passednames.graphs import graph_from
from passednames.threads import first_standing


class Side:
    """The graph of a program.

    knowns has the number of known names of each standing, rows the moves of each, first_names
    the given integers of the known names of the first one.
    """

    def __init__(self, standings, rows, names):
        self.knowns = [standing[0] for standing in standings]
        self.rows = rows
        self.first_names = names


def side_of(table, given):
    """The side of a program with what is given; raises the errors of its graph."""
    first, names = first_standing(table, given)
    standings, rows = graph_from(table, first)
    return Side(standings, rows, names)


def waits_of(row):
    """The list of the pairs (index, rest) of the waits in a row of moves."""
    return [(index, rests[0]) for index, (action, rests) in enumerate(row) if action[0] == "wait"]


def all_names(known):
    """The KEYS of a standing with so many known names to which no step has led."""
    return tuple(range(known))
