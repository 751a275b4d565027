"""Rows of sentences that part what triples compare.

A row for a triple that goes has a name for each known number of its first standing, and behind them
one for each known number of its second standing that is in no pair: that of a pair has one name.
"""

from passednames.pairs import all_behind, are_matching, ways_on
from passednames.runs import names_behind


class Refusal:
    """A move of a triple that the other side does not answer.

    side is the side that has it, action the move's. answers has for each move of the other side
    that matches it what fails: (way on, rest of the first side, rest of the second side, triple
    behind, which goes in an earlier round). A way on is (R, S, names) as in ways_on.
    """

    def __init__(self, side, action, answers):
        self.side = side
        self.action = action
        self.answers = answers


def refusal_at(pair, triple, gone):
    """A refusal at a triple that goes."""
    index, other, matching = triple
    sides = (pair.strong[0][index], pair.strong[1][other])
    for side in (0, 1):
        for move in sides[side]:
            matched = []
            for answer in sides[1 - side]:
                ends = (move, answer) if side == 0 else (answer, move)
                if are_matching(ends[0][0], ends[1][0], matching):
                    matched.append(ends)
            answers = refused_answers(pair, triple, gone, move[0][0], matched)
            if answers is not None:
                return Refusal(side, move[0], answers)
    return None


def refused_answers(pair, triple, gone, word, matched):
    """The answers of a refusal, None if some matched move is an answer."""
    known, other_known = knowns_of(pair, triple)
    ways = ways_on(word, known, other_known, triple[2])
    # Late each answer may fail in a way of its own; early all of them must fail in one and the same.
    choices = [ways] if pair.late else [[way] for way in ways]
    for choice in choices:
        answers = [failing(choice, ends, gone, gone[triple]) for ends in matched]
        if None not in answers:
            return answers
    return None


def failing(ways, ends, gone, number):
    """What fails first in these ways on of two moves, None if all of it stays until a round."""
    for way in ways:
        rest, other = ends[0][1][way[0]][0], ends[1][1][way[1]][0]
        behind = all_behind([rest], [other], way[2])[0]
        if behind in gone and gone[behind] < number:
            return (way, rest, other, behind)
    return None


def knowns_of(pair, triple):
    """The pair of how many known names the standings of a triple have."""
    one, other = pair.sides
    return (one.knowns[triple[0]], other.knowns[triple[1]])


def row_names(pair, triple):
    """The pair (names of the known numbers of the first standing, of the second) in the row for a triple."""
    known, other_known = knowns_of(pair, triple)
    firsts = {second: first for first, second in triple[2]}
    seconds = []
    many = known
    for number in range(other_known):
        if number in firsts:
            seconds.append(firsts[number])
        else:
            seconds.append(many)
            many += 1
    return (list(range(known)), seconds)


def values_in_row(pair, triple, values, other_values):
    """The tuple with the value of each name in the row for a triple, told for the known numbers of each side."""
    firsts, seconds = row_names(pair, triple)
    found = list(values)
    for name, value in zip(seconds, other_values):
        if name >= len(firsts):
            found.append(value)
    return tuple(found)


def parting_row(pair, triple, refusals, numbers):
    """The row that says of one side that it has the refused move; numbers has those of the rows ahead."""
    refusal = refusals[triple]
    names = row_names(pair, triple)
    many = len(values_in_row(pair, triple, names[0], names[1]))
    cases = []
    for way, rest, other, behind in refusal.answers:
        case = case_of(refusal.action, names, way)
        came = many if case is None else case
        values = names_behind(names[0], rest[1], came)
        other_values = names_behind(names[1], other[1], came)
        truth = refusals[behind].side == refusal.side
        cases.append((case, (truth, numbers[behind], values_in_row(pair, behind, values, other_values))))
    told = tuple([names[refusal.side][number] for number in refusal.action[1:]])
    if refusal.action[0] == "take":
        return (many, ("take",) + told + (tuple(cases),))
    return (many, refusal.action[:1] + told + (tuple([use for _, use in cases]),))


def case_of(action, names, way):
    """The name that is taken in a way on, None for one that both sides take as a stranger or open."""
    if action[0] == "take" and way[0] < len(names[0]):
        return names[0][way[0]]
    if action[0] == "take" and way[1] < len(names[1]):
        return names[1][way[1]]
    return None
