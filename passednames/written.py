"""The check of forms, and programs that are written from them."""

from passednames.errors import BadParameter, TooGreat
from passednames.formed import MOST_KNOWN
from passednames.formwalk import Count, walk_form
from passednames.plain import is_below
from passednames.programs import need_program
from passednames.walking import MOST_BRANCHES
from passednames.words import ALL_FOUR, need_likeness
from passednames.writing import ones_at, piece_of

MOST_NAMES_IN_USE = 10


def need_form(value, known, likeness):
    """Returns a form over so many names."""
    if not is_below(known, MOST_KNOWN + 1):
        raise BadParameter(known)
    need_likeness(likeness, ALL_FOUR)
    walk_form(value, known, likeness == "late", (), 1, Count())
    return value


def program_of(value, known, likeness):
    """A program without definitions that has this form, if any program has it."""
    form = need_form(value, known, likeness)
    ones = ones_at(form, known)
    if any([names > MOST_NAMES_IN_USE for names, _ in ones]):
        raise TooGreat(MOST_NAMES_IN_USE)
    if any([branches > MOST_BRANCHES for _, branches in ones]):
        raise TooGreat(MOST_BRANCHES)
    return need_program(((), piece_of(form, tuple(range(known)), 1)))
