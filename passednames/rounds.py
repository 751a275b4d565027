"""Rounds: what stays if all demands are to be met by what stays."""

from passednames.errors import NoMove, TooGreat, Unlike
from passednames.pairs import demands_of, first_triple, is_triple, named_in, triples_behind
from passednames.plain import is_row_up_to

MOST_TRIPLES = 1500


def rounds_of(demands):
    """A dict with the number of the round, from 1 on, in which each thing goes that does not always stay.

    demands has for each thing its demands: lists of alternatives, each a tuple of such things.
    """
    asking = asked_by(demands)
    gone = {}
    doubtful = list(demands)
    number = 0
    while doubtful:
        number += 1
        going = [thing for thing in doubtful if thing not in gone and not are_met(demands[thing], gone)]
        for thing in going:
            gone[thing] = number
        doubtful = unlike_ones([asker for thing in going for asker in asking.get(thing, [])])
    return gone


def asked_by(demands):
    """A dict with, for each thing, the list of those whose demands name it."""
    asking = {}
    for thing, asked in demands.items():
        for named in named_in(asked):
            asking.setdefault(named, []).append(thing)
    return asking


def unlike_ones(row):
    """The list of the unlike things of a row, as they come up."""
    return list({thing: True for thing in row})


def are_met(demands, gone):
    """Whether each demand has an alternative of which nothing is gone."""
    return all([any([not_gone(alternative, gone) for alternative in demand]) for demand in demands])


def not_gone(alternative, gone):
    """Whether nothing of an alternative is gone."""
    return not any([thing in gone for thing in alternative])


def met_from(pair, first):
    """The list of the triples that are met from one, itself the first."""
    met = [first]
    places = {first: 0}
    done = 0
    while done < len(met):
        for triple in triples_behind(pair, met[done]):
            if triple not in places:
                if len(met) == MOST_TRIPLES:
                    raise TooGreat(MOST_TRIPLES)
                places[triple] = len(met)
                met.append(triple)
        done += 1
    return met


def rounds_from(pair, first):
    """The pair (met triples, dict of the rounds in which they go) from a triple on."""
    met = met_from(pair, first)
    return (met, rounds_of({triple: demands_of(pair, triple) for triple in met}))


def always_stays(pair, first):
    """Whether a triple always stays in the rounds of the triples that are met from it."""
    met = met_from(pair, first)
    if first not in pair.stays:
        gone = rounds_of({triple: demands_of(pair, triple) for triple in met})
        for triple in met:
            pair.stays[triple] = triple not in gone
    return pair.stays[first]


def round_apart(pair):
    """The number of the round in which the first triple goes; NoMove if it always stays."""
    first = first_triple(pair)
    _, gone = rounds_from(pair, first)
    if first not in gone:
        raise NoMove()
    return gone[first]


def staying(pair):
    """The pair (ascending tuple of what always stays, dict of the others); Unlike if the first triple goes."""
    first = first_triple(pair)
    met, gone = rounds_from(pair, first)
    if first in gone:
        raise Unlike(gone[first])
    return (tuple(sorted([triple for triple in met if triple not in gone])), gone)


def is_closed(pair, paper):
    """Whether a value of any kind is a tuple of at most 1,500 triples that meet the demands of each."""
    if not is_row_up_to(paper, MOST_TRIPLES) or not all([is_triple(pair, item) for item in paper]):
        return False
    return all([are_met_by(demands_of(pair, triple), paper) for triple in unlike_ones(paper)])


def are_met_by(demands, paper):
    """Whether each demand has an alternative that stands in a paper."""
    held = {triple: True for triple in paper}
    return all([any([all([each in held for each in alternative]) for alternative in demand]) for demand in demands])
