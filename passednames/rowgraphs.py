"""Graphs and runs of row programs, and what the programs do in which rows pass name by name."""

from passednames.errors import BadIndex
from passednames.graphs import graph_from
from passednames.images import image_in, pass_on, steps_between
from passednames.names import AS_IS, need_given
from passednames.plain import is_below
from passednames.rowed import inner_table
from passednames.runs import all_taken, need_steps
from passednames.singling import Singled
from passednames.tables import Table
from passednames.threads import first_standing, need_small

MOST_STEPS = 50


class Twofold:
    """A row program with its graph, and the program in which its rows pass name by name, behind all checks.

    table is of the one, single_table of the other, singled tells what becomes of what; first_names
    are the given integers of the known names of the first standing of both.
    """

    def __init__(self, program, given):
        self.table = inner_table(program)
        self.given = need_given(given)
        self.singled = Singled(program)
        self.single_table = Table(self.singled.program)
        first, self.first_names = first_standing(self.table, given)
        self.standings, self.rows = graph_from(self.table, first)


def row_graph(program, given=AS_IS):
    """The pair (STANDINGS, ROWS) of a row program."""
    table = inner_table(program)
    first, _ = first_standing(table, need_given(given))
    return graph_from(table, first)


def image_of(program, given, index):
    """The standing of the singled program that does what the standing with this index does."""
    both = Twofold(program, given)
    if not is_below(index, len(both.standings)):
        raise BadIndex(index)
    image = image_in(both.single_table, both.singled, both.standings[index])
    need_small([image])
    return image


def single_graph(both):
    """The graph of the program in which rows pass name by name."""
    first, _ = first_standing(both.single_table, both.given)
    return graph_from(both.single_table, first)


def row_run(program, given, steps):
    """The steps of a run of the singled program that does what these steps of the row program do."""
    both = Twofold(program, given)
    standings, rows = single_graph(both)
    need_steps(steps, MOST_STEPS)
    taken = all_taken(both.rows, both.first_names, steps)
    places = {standing: place for place, standing in enumerate(standings)}
    index = 0
    found = []
    for step, each in zip(steps, taken):
        behind, keys = each.rest
        start = places[image_in(both.single_table, both.singled, both.standings[index])]
        end = places[image_in(both.single_table, both.singled, both.standings[behind])]
        action, _ = both.rows[index][step[0]]
        found.extend(steps_between(rows, start, both.standings[index][0], (action, step), (end, keys)))
        index = behind
    return tuple(found)


def finished(program, given, index):
    """The triple (INDEX, KEYS, WAITS): the row program's standing to which a standing is finished."""
    both = Twofold(program, given)
    standings, _ = single_graph(both)
    if not is_below(index, len(standings)):
        raise BadIndex(index)
    rest, keys, many = pass_on(both.single_table, both.singled, standings[index])
    images = [image_in(both.single_table, both.singled, standing) for standing in both.standings]
    return (images.index(rest), keys, many)
