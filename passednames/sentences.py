"""Sentences: which moves there are, and what holds behind them."""

from passednames.errors import BadSentence, TooGreat
from passednames.names import AS_IS, need_given
from passednames.plain import is_row_of
from passednames.sides import side_of
from passednames.tables import Table
from passednames.uses import cases_in, is_sentence_row, is_use
from passednames.worths import sentence_holds

MOST_ROWS = 1500


def need_sentence(value):
    """Returns a sentence; raises BadSentence for anything else."""
    if not is_row_of(value, 2):
        raise BadSentence(())
    rows, use = value
    if not isinstance(rows, tuple):
        raise BadSentence((0,))
    if len(rows) > MOST_ROWS:
        raise TooGreat(MOST_ROWS)
    manys = []
    for number, row in enumerate(rows):
        if not is_sentence_row(row, manys):
            raise BadSentence((0, number))
        manys.append(row[0])
    if not is_use(use, len(AS_IS), manys):
        raise BadSentence((1,))
    return value


def holds(program, sentence, given=AS_IS):
    """Whether a sentence holds of a program."""
    table = Table(program)
    need_sentence(sentence)
    side = side_of(table, need_given(given))
    return sentence_holds(side, sentence, given)


def depth_of(sentence):
    """How deep the row is that a sentence uses."""
    rows, use = need_sentence(sentence)
    depths = []
    for _, action in rows:
        depths.append(1 + max([depths[inner[1]] for _, inner in cases_in(action)], default=0))
    return depths[use[1]]


def is_early(sentence):
    """Whether in each row with a take all names that may be taken are told alike."""
    rows, _ = need_sentence(sentence)
    for _, action in rows:
        cases = [case for case, _ in cases_in(action)]
        if any([case != cases[0] for case in cases]):
            return False
    return True


def turned_sentence(sentence):
    """The sentence that holds of just those of which this one does not."""
    rows, (truth, row, names) = need_sentence(sentence)
    return (rows, (not truth, row, names))
