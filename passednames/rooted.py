"""What rooted likeness asks of the first triple."""

from passednames.pairs import demands_by, first_triple
from passednames.weakness import behind_waits


def rooted_demands(pair):
    """The demands at the first triple: a wait is answered by one wait or more."""
    answers = tuple([[rooted_row(pair, place)] for place in (0, 1)])
    return demands_by(pair, first_triple(pair), answers)


def rooted_row(pair, place):
    """The weak moves of the first standing of a side, of silent rows those with a wait."""
    waits = [behind_waits(pair.sides[place], 0)]
    return [(action, waits if action[0] == "wait" else lists) for action, lists in pair.answers[place][0]]
