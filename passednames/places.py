"""Places: standings of a graph with the known numbers of two names that are sought; runs to them."""

from passednames.plain import is_below, is_integer, is_name, is_row_of

# The least name that no program has and no GIVEN gives.
FIRST_FRESH = 10

LENGTHS = {"open": 2, "send": 3, "take": 2, "wait": 1}


def is_wanted(value):
    """Whether this is a word of moves with names, or None for them."""
    if not isinstance(value, tuple) or not value or not isinstance(value[0], str):
        return False
    if value[0] not in LENGTHS or len(value) != LENGTHS[value[0]]:
        return False
    return all([name is None or is_name(name) for name in value[1:]])


def sought_by(wanted):
    """The pair of the names that are sought, None where none is."""
    first, second = (wanted[1:] + (None, None))[:2]
    return (first, second)


def first_place(side, sought):
    """The place at which all runs begin."""
    first, second = sought
    return (0, number_of(side.first_names, first), number_of(side.first_names, second))


def number_of(names, name):
    """The number that has this name, -1 if none has it."""
    if name in names:
        return names.index(name)
    return -1


def is_place(side, sought, value):
    """Whether this is a place of the graph."""
    if not is_row_of(value, 3) or not is_below(value[0], len(side.rows)):
        return False
    index, first, second = value
    known = side.knowns[index]
    if not is_number_of(first, sought[0], known) or not is_number_of(second, sought[1], known):
        return False
    if sought[0] is not None and sought[0] == sought[1]:
        return first == second
    return first != second or first == -1


def is_number_of(value, name, known):
    """Whether the sought name, or None, can have this number of so many known ones, or -1."""
    if not is_integer(value) or not -1 <= value < known:
        return False
    return name is not None or value == -1


def does(side, place, wanted, step):
    """Whether a step from a place does what is wanted."""
    action, _ = side.rows[place[0]][step[0]]
    if action[0] != wanted[0]:
        return False
    return all([name is None or number == there for name, number, there in zip(wanted[1:], action[1:], place[1:])])


def steps_from(side, place, sought, fresh):
    """The ascending list of the triples (step, name that comes up or None, place behind).

    A stranger is one of the sought names that are not known there, or has the name fresh.
    """
    known = side.knowns[place[0]]
    found = []
    for move, (action, rests) in enumerate(side.rows[place[0]]):
        for rest, (index, keys) in enumerate(rests):
            is_stranger = action[0] == "take" and rest == known
            for came in names_coming(action, is_stranger, place, sought, fresh):
                step = (move, rest, came) if is_stranger else (move, rest)
                numbers = [number_behind(keys, known, place[1 + at], sought[at], came) for at in (0, 1)]
                found.append((step, came, (index, numbers[0], numbers[1])))
    return found


def names_coming(action, is_stranger, place, sought, fresh):
    """The ascending list of the names that may come up in a step, [None] if none does."""
    if is_stranger:
        free = [name for name, number in zip(sought, place[1:]) if name is not None and number == -1]
        return sorted(set(free)) + [fresh]
    if action[0] == "open":
        return [fresh]
    return [None]


def number_behind(keys, known, number, name, came):
    """The number that a sought name has behind a step, -1 if none; came is the name that came up."""
    if name is not None and name == came:
        return number_of(keys, known)
    return number_of(keys, number)


def runs_to_places(side, sought):
    """A dict of all places that runs come to, in the order in which they are met.

    Each has the pair (steps, next fresh name) of the run with as few steps as possible, of
    several the least: places are met in the order of their runs.
    """
    first = first_place(side, sought)
    runs = {first: ((), FIRST_FRESH)}
    ahead = [first]
    done = 0
    while done < len(ahead):
        steps, fresh = runs[ahead[done]]
        for step, came, behind in steps_from(side, ahead[done], sought, fresh):
            if behind not in runs:
                runs[behind] = (steps + (step,), fresh + 1 if came == fresh else fresh)
                ahead.append(behind)
        done += 1
    return runs
