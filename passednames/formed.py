"""Forms of finite programs."""

from passednames.conditions import all_joinings
from passednames.errors import BadParameter
from passednames.forms import strong_form, weak_form
from passednames.names import AS_IS, need_given
from passednames.plain import is_below
from passednames.programs import need_finite
from passednames.tables import Table
from passednames.words import ALL_FOUR, need_likeness
from passednames.world import steps_in_world

MOST_KNOWN = 5


def form_of(program, given, known, likeness):
    """The form of a finite program over so many names of the world."""
    table = Table(need_finite(program))
    need_given(given)
    need_known(table, given, known)
    need_likeness(likeness, ALL_FOUR)
    return form_in_world(table, given, known, likeness)


def joined_forms(program, known, likeness):
    """The tuple of the forms for all joinings of so many names."""
    table = Table(need_finite(program))
    need_known(table, AS_IS, known)
    need_likeness(likeness, ALL_FOUR)
    found = []
    for joining in all_joinings(known):
        found.append(form_in_world(table, joining + AS_IS[known:], known, likeness))
    return tuple(found)


def need_known(table, given, known):
    """Raises BadParameter unless this is an integer from 0 to 5 above each integer given to a free name."""
    if not is_below(known, MOST_KNOWN + 1):
        raise BadParameter(known)
    if not all([given[name] < known for name in table.free[(1,)]]):
        raise BadParameter(known)


def form_in_world(table, given, known, likeness):
    """The form of a program, behind all checks of parameters."""
    steps = steps_in_world(table, given, known)
    if likeness in ("early", "late"):
        return strong_form(steps, likeness == "late")
    return weak_form(steps, likeness == "rooted")
