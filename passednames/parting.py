"""Sentences that hold of one program and not of another one."""

from passednames.errors import NoMove
from passednames.likeness import pair_where
from passednames.names import AS_IS, need_given
from passednames.pairs import first_triple
from passednames.refusals import parting_row, refusal_at, values_in_row
from passednames.rounds import rounds_from
from passednames.sentences import need_sentence
from passednames.sides import side_of
from passednames.tables import Table
from passednames.worths import sentence_holds


def parting(one, other, likeness, given=AS_IS):
    """A sentence that holds of one and not of other, as deep as the round in which they part."""
    pair = pair_where(one, other, likeness, given)
    first = first_triple(pair)
    _, gone = rounds_from(pair, first)
    if first not in gone:
        raise NoMove()
    refusals = refusals_from(pair, first, gone)
    rows = []
    numbers = {}
    # A row uses only rows for what goes in earlier rounds, so these stand ahead of it.
    for triple in sorted(list(refusals), key=lambda each: gone[each]):
        numbers[triple] = len(rows)
        rows.append(parting_row(pair, triple, refusals, numbers))
    names = [[given.index(name) for name in side.first_names] for side in pair.sides]
    use = (refusals[first].side == 0, numbers[first], values_in_row(pair, first, names[0], names[1]))
    return (tuple(rows), use)


def refusals_from(pair, first, gone):
    """A dict with the refusals at a triple that goes and at all triples that they come to."""
    refusals = {}
    ahead = [first]
    while ahead:
        triple = ahead.pop()
        if triple not in refusals:
            refusals[triple] = refusal_at(pair, triple, gone)
            ahead.extend([answer[3] for answer in refusals[triple].answers])
    return refusals


def parts(one, other, sentence, given=AS_IS):
    """Whether a sentence holds of one and not of other."""
    first, second = Table(one), Table(other)
    need_sentence(sentence)
    need_given(given)
    sides = (side_of(first, given), side_of(second, given))
    return sentence_holds(sides[0], sentence, given) and not sentence_holds(sides[1], sentence, given)
