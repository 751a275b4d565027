"""Runs, told with the names of the world."""

from passednames.errors import BadStep, TooGreat
from passednames.graphs import graph_from
from passednames.names import need_given
from passednames.plain import are_from_zero, is_below, is_row_of
from passednames.tables import Table
from passednames.threads import first_standing

MOST_STEPS = 200
MOST_ACTIONS = 40
GREATEST_NAME = 10 ** 6
GREATEST_FREE_NAME = 9


class Taken:
    """A step that has been taken.

    told is the action with the world's names, rest the pair (standing or its index, KEYS) behind,
    held the names of the known numbers there, greatest the greatest name in use.
    """

    def __init__(self, told, rest, names, greatest):
        self.told = told
        self.rest = rest
        self.held = names
        self.greatest = greatest


def walked(program, given, steps):
    """The triple (INDEX, NAMES, TRACE) behind these steps."""
    table = Table(program)
    need_given(given)
    need_steps(steps, MOST_STEPS)
    first, names = first_standing(table, given)
    _, rows = graph_from(table, first)
    taken = all_taken(rows, names, steps)
    if not taken:
        return (0, names, ())
    last = taken[-1]
    return (last.rest[0], last.held, tuple([each.told for each in taken]))


def need_steps(value, most):
    """Raises the errors of what is to be a tuple of at most so many steps, whatever these are."""
    if not isinstance(value, tuple):
        raise BadStep(0)
    if len(value) > most:
        raise TooGreat(most)


def all_taken(rows, names, steps):
    """The list of the steps of a run as they are taken; rows has the moves of a graph.

    Raises BadStep with the place of the first one that is none.
    """
    index = 0
    greatest = GREATEST_FREE_NAME
    found = []
    for place, step in enumerate(steps):
        taken = taken_step(rows[index], names, greatest, step)
        if taken is None:
            raise BadStep(place)
        index, names, greatest = taken.rest[0], taken.held, taken.greatest
        found.append(taken)
    return found


def taken_step(row, names, greatest, step):
    """A step from a standing with this row of moves as it is taken, None if it is none there.

    greatest is the greatest name in use, which all names that are opened come behind.
    """
    if not is_step(row, names, step):
        return None
    action, rests = row[step[0]]
    name = name_passed(action, step, names, greatest)
    if name > GREATEST_NAME:
        return None
    rest = rests[step[1]]
    return Taken(told_action(action, names, name), rest, names_behind(names, rest[1], name), max(greatest, name))


def is_step(row, names, value):
    """Whether this is a step from a standing with this row of moves, its known numbers having these names."""
    if not are_from_zero(value) or len(value) not in (2, 3) or value[0] >= len(row):
        return False
    action, rests = row[value[0]]
    if value[1] >= len(rests):
        return False
    if action[0] == "take" and value[1] == len(names):
        return len(value) == 3 and value[2] <= GREATEST_NAME and value[2] not in names
    return len(value) == 2


def name_passed(action, step, names, greatest):
    """The name that a step sends, opens or takes; 0, which is always in use, for a wait."""
    word = action[0]
    if word == "wait":
        return 0
    if word == "send":
        return names[action[2]]
    if word == "open":
        return greatest + 1
    if len(step) == 3:
        return step[2]
    return names[step[1]]


def told_action(action, names, name):
    """The action with the world's names; name is the one that passes."""
    if action[0] == "wait":
        return action
    return (action[0], names[action[1]], name)


def names_behind(names, keys, name):
    """The names of the known numbers behind a step; name is what came up, if anything did."""
    return tuple([name if key == len(names) else names[key] for key in keys])


def traced(program, given, trace):
    """The ascending tuple of the unlike pairs (INDEX, NAMES) behind all runs with just these actions."""
    table = Table(program)
    need_given(given)
    need_trace(trace)
    first, names = first_standing(table, given)
    _, rows = graph_from(table, first)
    reached = [(0, names)]
    for action in trace:
        behind = []
        for index, held in reached:
            behind.extend(places_behind(rows[index], held, action))
        reached = sorted(set(behind))
    return tuple(reached)


def need_trace(trace):
    """Raises the errors of a trace, which must not open a name in use."""
    if not isinstance(trace, tuple):
        raise BadStep(0)
    if len(trace) > MOST_ACTIONS:
        raise TooGreat(MOST_ACTIONS)
    used = list(range(GREATEST_FREE_NAME + 1))
    for place, action in enumerate(trace):
        if not is_told_action(action):
            raise BadStep(place)
        used.extend(action[1:2])
        if action[0] == "open" and action[2] in used:
            raise BadStep(place)
        used.extend(action[2:3])


def is_told_action(value):
    """Whether this is an action with the world's names."""
    if not isinstance(value, tuple) or not value or not isinstance(value[0], str):
        return False
    if value[0] == "wait":
        return is_row_of(value, 1)
    if value[0] not in ("send", "open", "take") or not is_row_of(value, 3):
        return False
    return all([is_below(name, GREATEST_NAME + 1) for name in value[1:]])


def places_behind(row, names, told):
    """The list of the pairs (INDEX, NAMES) behind the moves of a row that do this action."""
    behind = []
    for action, rests in row:
        if not does(action, names, told):
            continue
        index, keys = rests[rest_taken(names, told)]
        behind.append((index, names_behind(names, keys, told[-1])))
    return behind


def does(action, names, told):
    """Whether a move with this action does what is told with the world's names."""
    if action[0] == "send":
        return told == told_action(action, names, names[action[2]])
    return told == told_action(action, names, told[-1])


def rest_taken(names, told):
    """The index of the rest: that of the known number with the name taken, else of the stranger."""
    if told[0] != "take":
        return 0
    if told[2] in names:
        return names.index(told[2])
    return len(names)
