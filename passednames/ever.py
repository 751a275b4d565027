"""What can ever come in a run, standing still, endless silence."""

from passednames.errors import BadMove, NoMove, Unlike
from passednames.names import need_given
from passednames.places import FIRST_FRESH, does, first_place, is_place, is_wanted
from passednames.places import runs_to_places, sought_by, steps_from
from passednames.plain import are_from_zero
from passednames.sides import side_of, waits_of
from passednames.tables import Table

NOTHING_SOUGHT = (None, None)


def can_ever(program, given, wanted):
    """The steps of the shortest run, of several the least, whose last one does what is wanted."""
    side = side_where(program, given, wanted)
    steps = steps_that_do(side, wanted)
    if steps is None:
        raise NoMove()
    return steps


def never_paper(program, given, wanted):
    """The ascending tuple of the places that runs come to, if no run does what is wanted."""
    side = side_where(program, given, wanted)
    steps = steps_that_do(side, wanted)
    if steps is not None:
        raise Unlike(steps)
    return tuple(sorted(list(runs_to_places(side, sought_by(wanted)))))


def is_never_paper(program, given, wanted, paper):
    """Whether a value of any kind is a paper that no run does what is wanted."""
    side = side_where(program, given, wanted)
    sought = sought_by(wanted)
    if not isinstance(paper, tuple) or not all([is_place(side, sought, item) for item in paper]):
        return False
    places = {place: True for place in paper}
    if first_place(side, sought) not in places:
        return False
    for place in places:
        for step, _, behind in steps_from(side, place, sought, FIRST_FRESH):
            if behind not in places or does(side, place, wanted, step):
                return False
    return True


def side_where(program, given, wanted):
    """The side of a program, behind the check of what is wanted."""
    table = Table(program)
    need_given(given)
    if not is_wanted(wanted):
        raise BadMove(wanted)
    return side_of(table, given)


def steps_that_do(side, wanted):
    """The steps that can_ever returns, None if no run does what is wanted."""
    sought = sought_by(wanted)
    runs = runs_to_places(side, sought)
    for place, (steps, fresh) in runs.items():
        for step, _, _ in steps_from(side, place, sought, fresh):
            if does(side, place, wanted, step):
                return steps + (step,)
    return None


def still_steps(program, given, words):
    """The fewest steps, of several the least, to a standing that has no move with any of these words."""
    table = Table(program)
    need_given(given)
    if not are_words(words):
        raise BadMove(words)
    side = side_of(table, given)
    runs = runs_to_places(side, NOTHING_SOUGHT)
    for place, (steps, _) in runs.items():
        if not any([action[0] in words for action, _ in side.rows[place[0]]]):
            return steps
    raise NoMove()


def are_words(value):
    """Whether this is an ascending tuple of unlike words of moves."""
    if not isinstance(value, tuple) or not all([is_word(item) for item in value]):
        return False
    return list(value) == sorted(set(value))


def is_word(value):
    """Whether this is the word of a move."""
    return isinstance(value, str) and value in ("open", "send", "take", "wait")


def silent_circle(program, given):
    """The pair (STEPS, CIRCLE): the run to the first standing that has a circle, and its shortest one."""
    table = Table(program)
    found = first_circle(side_of(table, need_given(given)))
    if found is None:
        raise NoMove()
    return found


def first_circle(side):
    """What silent_circle returns, None if no standing has a circle."""
    for index in range(len(side.rows)):
        circle = circle_at(side, index)
        if circle is not None:
            steps, _ = runs_to_places(side, NOTHING_SOUGHT)[(index, -1, -1)]
            return (steps, circle)
    return None


def circle_at(side, index):
    """The shortest circle, of several the least, at a standing; None if it has none."""
    ahead = [(index, ())]
    met = {}
    done = 0
    while done < len(ahead):
        standing, steps = ahead[done]
        for move, (behind, _) in waits_of(side.rows[standing]):
            if behind == index:
                return steps + ((move, 0),)
            if behind not in met:
                met[behind] = True
                ahead.append((behind, steps + ((move, 0),)))
        done += 1
    return None


def ranks(program, given):
    """The tuple with, for each standing, the greatest number of waits that can be done in a row."""
    table = Table(program)
    side = side_of(table, need_given(given))
    found = first_circle(side)
    if found is not None:
        raise Unlike(found)
    known = {}
    while len(known) < len(side.rows):
        for index, row in enumerate(side.rows):
            behind = [standing for _, (standing, _) in waits_of(row)]
            if all([standing in known for standing in behind]):
                known[index] = max([known[standing] + 1 for standing in behind], default=0)
    return tuple([known[index] for index in range(len(side.rows))])


def are_ranks(program, given, value):
    """Whether this is a tuple with an integer from 0 on for each standing that each wait makes lesser."""
    table = Table(program)
    side = side_of(table, need_given(given))
    if not are_from_zero(value) or len(value) != len(side.rows):
        return False
    for index, row in enumerate(side.rows):
        if not all([value[behind] < value[index] for _, (behind, _) in waits_of(row)]):
            return False
    return True
