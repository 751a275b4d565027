"""The triples that are met as two programs answer each other's moves."""

from passednames.names import AS_IS
from passednames.pairs import first_triple, pair_of
from passednames.rounds import met_from
from passednames.tables import Table


def triples_met(one, other, given=AS_IS):
    """The ascending tuple of the triples that are met."""
    # Which triples are met does not hang on whether the likeness is early or late.
    pair = pair_of(Table(one), Table(other), given, "early")
    return tuple(sorted(met_from(pair, first_triple(pair))))
