"""The walk through a value that is to be a form."""

from passednames.errors import BadForm, TooGreat
from passednames.forms import MOST_IN_FORM
from passednames.plain import is_below, is_row_of

MOST_ON_A_WAY = 60


class Count:
    """How many forms and entries have been met."""

    def __init__(self):
        self.met = 0


def meet_one(count):
    """Counts a form or entry; raises TooGreat if there are too many."""
    if count.met == MOST_IN_FORM:
        raise TooGreat(MOST_IN_FORM)
    count.met += 1


def walk_form(value, known, late, place, deep, count):
    """Raises the first error of what is to be a form over so many names, the form number deep on its way."""
    if deep > MOST_ON_A_WAY:
        raise TooGreat(MOST_ON_A_WAY)
    meet_one(count)
    if not isinstance(value, tuple):
        raise BadForm(place)
    for index, entry in enumerate(value):
        meet_one(count)
        there = place + (index,)
        if not is_entry(entry, known, late):
            raise BadForm(there)
        for inner, many, form in forms_in(entry, known):
            walk_form(form, many, late, there + inner, deep + 1, count)
        if index > 0 and not value[index - 1] < entry:
            raise BadForm(there)
    if not late and not has_all_cases(value, known):
        raise BadForm(place)


def is_entry(value, known, late):
    """Whether this is an entry of a form over so many names, whatever its forms are."""
    if not isinstance(value, tuple) or not value or not isinstance(value[0], str):
        return False
    word = value[0]
    if word == "wait":
        return is_row_of(value, 2)
    if word == "open":
        return is_row_of(value, 3) and is_below(value[1], known)
    if word == "send":
        return is_row_of(value, 4) and is_below(value[1], known) and is_below(value[2], known)
    if word == "take" and late:
        return is_row_of(value, 3) and is_below(value[1], known) and is_row_of(value[2], known + 1)
    if word == "take":
        return is_row_of(value, 4) and is_below(value[1], known) and is_below(value[2], known + 1)
    return False


def forms_in(entry, known):
    """The list of the triples (what comes behind the entry's place, how many names, form)."""
    word = entry[0]
    if word == "open":
        return [((), known + 1, entry[2])]
    if len(entry) == 3:
        return [((taken,), names_with(taken, known), form) for taken, form in enumerate(entry[2])]
    if word == "take":
        return [((), names_with(entry[2], known), entry[3])]
    return [((), known, entry[-1])]


def names_with(taken, known):
    """How many names the world has behind a take of this one."""
    return max(known, taken + 1)


def has_all_cases(form, known):
    """Whether for each name with a take there is one for each name that may be taken."""
    cases = [(entry[1], entry[2]) for entry in form if entry[0] == "take"]
    return all([(name, taken) in cases for name, _ in cases for taken in range(known + 1)])
