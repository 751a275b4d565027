"""Triples of two sides: matchings, the moves that match, and what must be behind them."""

from passednames.names import need_given
from passednames.plain import is_below, is_row_of
from passednames.sides import side_of
from passednames.weakness import all_silent, weak_row


class Pair:
    """Two sides, a likeness, and what has been found of their triples.

    strong and answers have for each side and each of its standings a list of pairs (ACTION,
    rests), rests being lists of pairs (index, KEYS): one for a send, open or wait, for a take
    one for each name.
    """

    def __init__(self, one, other, likeness):
        self.sides = (one, other)
        self.late = likeness == "late"
        self.strong = (moves_in_lists(one), moves_in_lists(other))
        self.answers = self.strong
        if likeness == "weak":
            self.answers = (weak_answers(one), weak_answers(other))
        self.demands = {}
        self.behind = {}
        self.stays = {}


def pair_of(table, other_table, given, likeness):
    """Two programs with what is given; raises BadGiven, then the errors of their graphs."""
    need_given(given)
    return Pair(side_of(table, given), side_of(other_table, given), likeness)


def moves_in_lists(side):
    """The moves of each standing, each rest being the only one of its list."""
    return [[(action, [[rest] for rest in rests]) for action, rests in row] for row in side.rows]


def weak_answers(side):
    """The weak moves of each standing."""
    silent = all_silent(side)
    return [weak_row(side, silent, index) for index in range(len(side.rows))]


def first_triple(pair):
    """The first triple: names that were given one integer are one."""
    one, other = pair.sides
    matching = []
    for number, name in enumerate(one.first_names):
        matching.extend([(number, place) for place, given in enumerate(other.first_names) if given == name])
    return (0, 0, tuple(matching))


def is_triple(pair, value):
    """Whether this is a triple of the two sides, met or not."""
    one, other = pair.sides
    if not is_row_of(value, 3) or not is_below(value[0], len(one.rows)) or not is_below(value[1], len(other.rows)):
        return False
    return is_matching(value[2], one.knowns[value[0]], other.knowns[value[1]])


def is_matching(value, known, other_known):
    """Whether this is a matching of so many known numbers with so many."""
    if not isinstance(value, tuple):
        return False
    for item in value:
        if not is_row_of(item, 2) or not is_below(item[0], known) or not is_below(item[1], other_known):
            return False
    firsts = [first for first, _ in value]
    seconds = [second for _, second in value]
    return firsts == sorted(set(firsts)) and len(set(seconds)) == len(seconds)


def are_matching(action, other, matching):
    """Whether a move of one side and one of the other side match, but for what is behind them."""
    return action[0] == other[0] and all([names in matching for names in zip(action[1:], other[1:])])


def ways_on(word, known, other_known, matching):
    """The list of the ways in which two moves that match go on: triples (R, S, names).

    R and S are the numbers of their rests, names has the pairs of names that are one behind them.
    """
    if word == "open":
        return [(0, 0, matching + ((known, other_known),))]
    if word != "take":
        return [(0, 0, matching)]
    firsts = [first for first, _ in matching]
    seconds = [second for _, second in matching]
    taken = list(matching)
    taken.extend([(name, other_known) for name in range(known) if name not in firsts])
    taken.extend([(known, name) for name in range(other_known) if name not in seconds])
    taken.append((known, other_known))
    return [(first, second, matching + ((first, second),)) for first, second in taken]


def all_behind(rests, others, names):
    """The list of the triples behind each rest of one side and each of the other side.

    names has the pairs of names that are one.
    """
    partners = {first: second for first, second in names}
    found = []
    for index, keys in rests:
        wanted = [partners.get(key) for key in keys]
        for other, other_keys in others:
            places = {key: place for place, key in enumerate(other_keys)}
            matching = [(place, places[name]) for place, name in enumerate(wanted) if name in places]
            found.append((index, other, tuple(matching)))
    return found


def demands_by(pair, triple, answers):
    """The list of what is asked for at a triple, if moves are answered by these.

    A demand is a list of alternatives, an alternative a tuple of triples that must all stay.
    """
    index, other, matching = triple
    found = []
    for move in pair.strong[0][index]:
        matched = [(move, answer) for answer in answers[1][other] if are_matching(move[0], answer[0], matching)]
        found.extend(demands_of_move(pair, triple, move, matched))
    for move in pair.strong[1][other]:
        matched = [(answer, move) for answer in answers[0][index] if are_matching(answer[0], move[0], matching)]
        found.extend(demands_of_move(pair, triple, move, matched))
    return found


def demands_of_move(pair, triple, move, matched):
    """The demands of one move, matched having the pairs of it and its answers: one for each way on.

    A late take is one demand: one and the same answer must do in all ways.
    """
    one, other = pair.sides
    ways = ways_on(move[0][0], one.knowns[triple[0]], other.knowns[triple[1]], triple[2])
    if pair.late:
        return [[late_alternative(ways, rests, answers) for (_, rests), (_, answers) in matched]]
    found = []
    for first, second, names in ways:
        demand = []
        for (_, rests), (_, answers) in matched:
            demand.extend([(triple,) for triple in all_behind(rests[first], answers[second], names)])
        found.append(demand)
    return found


def late_alternative(ways, rests, others):
    """The tuple of the triples behind two moves, each with one rest for each name, in all ways."""
    found = []
    for first, second, names in ways:
        found.extend(all_behind(rests[first], others[second], names))
    return tuple(found)


def demands_of(pair, triple):
    """The demands at a triple."""
    if triple not in pair.demands:
        pair.demands[triple] = demands_by(pair, triple, pair.answers)
    return pair.demands[triple]


def triples_behind(pair, triple):
    """The list of the unlike triples that are met from a triple at once.

    Weak moves on both sides come to no others in the end: what they do can be done in turn by
    moves of one side, the other one answering.
    """
    if triple not in pair.behind:
        pair.behind[triple] = named_in(demands_of(pair, triple))
    return pair.behind[triple]


def named_in(demands):
    """The list of all unlike things that stand in the alternatives of some demands."""
    found = {}
    for demand in demands:
        for alternative in demand:
            for thing in alternative:
                found[thing] = True
    return list(found)
