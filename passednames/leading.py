"""Rules that lead a program to another one that is alike."""

from passednames.besiderules import BESIDE_RULES, GREATEST_NAME, others_than
from passednames.errors import BadPiece, BadRule, BadStep, TooGreat
from passednames.namerules import NAME_RULES
from passednames.onerules import ONE_RULES
from passednames.pieces import with_part_at
from passednames.plain import are_from_zero, is_row_of, is_row_up_to, least_not_in
from passednames.programs import need_finite, need_program, parts_of, same_but_bound
from passednames.rules import is_step_by_rule, keeps
from passednames.shapes import free_of_all
from passednames.words import ALL_FOUR, need_likeness

MOST_STEPS = 100


def led(program, step):
    """The program with a part of MAIN replaced by what a rule tells."""
    parts = dict(parts_of(program))
    if not is_step_by_rule(step):
        raise BadRule(step)
    path = step[1]
    if not are_from_zero(path) or path not in parts or path[0] != 1:
        raise BadStep(path)
    part = replaced(parts[path], step[0], step[2:])
    if part is None:
        raise BadStep(path)
    try:
        return need_program(with_part_at(program, path, part))
    except BadPiece:
        raise BadStep(path)


def replaced(part, word, args):
    """What a part becomes by a rule, None if it does not fit."""
    if word in ONE_RULES:
        rule = ONE_RULES[word]
    elif word in BESIDE_RULES:
        rule = BESIDE_RULES[word]
    else:
        rule = NAME_RULES[word]
    return rule(part, args)


def led_all(program, steps):
    """The program behind at most 100 steps in turn."""
    need_program(program)
    if not isinstance(steps, tuple):
        raise BadRule(steps)
    if len(steps) > MOST_STEPS:
        raise TooGreat(MOST_STEPS)
    for step in steps:
        program = led(program, step)
    return program


def is_led(one, other, paper, likeness):
    """Whether a value of any kind is a pair of rows of steps that lead both to the same, by this likeness."""
    need_program(one)
    need_program(other)
    need_likeness(likeness, ALL_FOUR)
    if not is_row_of(paper, 2) or one[0] != other[0]:
        return False
    if not are_steps_that_keep(paper[0], likeness) or not are_steps_that_keep(paper[1], likeness):
        return False
    try:
        return same_but_bound(led_all(one, paper[0]), led_all(other, paper[1]))
    except (BadStep, TooGreat):
        return False


def are_steps_that_keep(value, likeness):
    """Whether this is a tuple of at most 100 steps of rules that keep a likeness."""
    if not is_row_up_to(value, MOST_STEPS) or not all([is_step_by_rule(step) for step in value]):
        return False
    return all([keeps(step[0], likeness) for step in value])


def unfolding(program):
    """The steps that lead a finite program to one without a beside in MAIN."""
    need_finite(program)
    steps = []
    besides = besides_in(program)
    while besides:
        if len(steps) == MOST_STEPS:
            raise TooGreat(MOST_STEPS)
        path, part = besides[-1]
        steps.append(step_unfolding(path, part[1]))
        program = led(program, steps[-1])
        besides = besides_in(program)
    return tuple(steps)


def besides_in(program):
    """The list of the pairs (path, beside) in the order of the walk; they stand in MAIN alone."""
    return [(path, part) for path, part in parts_of(program) if part[0] == "beside"]


def step_unfolding(path, items):
    """The next step at a beside with these items, within which no other beside stands."""
    if ("one", ()) in items:
        return ("drop", path, items.index(("one", ())))
    if len(items) == 1:
        return ("bare", path)
    for place, item in enumerate(items):
        if item[0] == "new" and item[1] in free_of_all(others_than(items, place)):
            return ("turn", path + (1, place), unused_name(items))
        if item[0] == "new":
            return ("out", path, place)
    return ("meet", path)


def unused_name(items):
    """The least name that is free in none of these."""
    name = least_not_in(free_of_all(items))
    if name > GREATEST_NAME:
        raise TooGreat(GREATEST_NAME + 1)
    return name
