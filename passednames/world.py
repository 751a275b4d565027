"""Standings in the world: each known name is one of the world's names, which are 0 to K - 1."""

from passednames.errors import TooGreat
from passednames.moving import moves_of
from passednames.runs import names_behind
from passednames.threads import first_standing

MOST_IN_WORLD = 400


def steps_in_world(table, given, known):
    """What can be done at each standing in the world to which moves lead, the first one first.

    For each a list of pairs (ACTION, numbers): ACTION has names of the world, numbers tell the
    standings behind it, one for each taken name.
    """
    standing, names = first_standing(table, given)
    met = [(standing, names, known)]
    numbers = {met[0]: 0}
    steps = []
    while len(steps) < len(met):
        standing, names, many = met[len(steps)]
        row = []
        for action, rests in moves_of(table, standing):
            behind = rests_in_world(action, rests, names, many)
            for rest in behind:
                if rest not in numbers:
                    if len(met) == MOST_IN_WORLD:
                        raise TooGreat(MOST_IN_WORLD)
                    numbers[rest] = len(met)
                    met.append(rest)
            told = (action[0],) + tuple([names[number] for number in action[1:]])
            row.append((told, tuple([numbers[rest] for rest in behind])))
        steps.append(row)
    return steps


def rests_in_world(action, rests, names, many):
    """The list of the standings in the world behind a move: of a take one for each name and a new one."""
    if action[0] != "take":
        return [rest_in_world(rests[0], names, many, many if action[0] == "open" else None)]
    found = []
    for taken in range(many + 1):
        rest = names.index(taken) if taken in names else len(names)
        found.append(rest_in_world(rests[rest], names, many, taken))
    return found


def rest_in_world(rest, names, many, came):
    """A rest as a standing in the world; came is the name that comes up in it, or None."""
    standing, keys = rest
    return (standing, names_behind(names, keys, came), many + 1 if came == many else many)
