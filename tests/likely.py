"""Likenesses once more, as directly from the document as can be, to compare with the program.

Everything is told over what tests/oracle.py says of standings and moves. Matchings are frozensets.
"""

import itertools

from tests import oracle


class Told:
    """A program with its graph, its first names, and its weak moves."""

    def __init__(self, program, given):
        standings, self.rows = oracle.graph(program, given)
        self.names = oracle.first(program, given)[1]
        self.known = [standing[0] for standing in standings]

    def silent(self, index, least=0):
        """The set of the pairs behind silent rows of at least so many waits."""
        reached = {(index, tuple(range(self.known[index])))} if least == 0 else set()
        rows = [(index, tuple(range(self.known[index])))]
        seen = set()
        while rows:
            middle, keys = rows.pop()
            for action, rests in self.rows[middle]:
                if action == ("wait",):
                    behind, inner = rests[0]
                    pair = (behind, tuple(keys[number] for number in inner))
                    reached.add(pair)
                    if pair not in seen:
                        seen.add(pair)
                        rows.append(pair)
        return reached

    def weak(self, index):
        """A dict from each action to the list of its sets of pairs."""
        known = self.known[index]
        found = {("wait",): [self.silent(index)]}
        for middle, keys in self.silent(index):
            for action, rests in self.rows[middle]:
                if action == ("wait",):
                    continue
                told = (action[0], *[keys[number] for number in action[1:]])
                is_take = action[0] == "take"
                sets = found.setdefault(told, [set() for _ in range(known + 1 if is_take else 1)])
                for place, pairs in enumerate(sets):
                    came = place if is_take else known
                    chosen = 0
                    if is_take:
                        chosen = next((n for n, key in enumerate(keys) if key == place), len(keys))
                    behind, inner = rests[chosen]
                    over = [came if key == len(keys) else keys[key] for key in inner]
                    pairs |= {(last, tuple(over[n] for n in more)) for last, more in self.silent(behind)}
        return found

    def weak_moves(self):
        """What weak_moves returns."""
        rows = []
        for index in range(len(self.rows)):
            row = []
            for action, sets in self.weak(index).items():
                rests = tuple(tuple(sorted(pairs)) for pairs in sets)
                row.append((action, rests if action[0] == "take" else rests[0]))
            rows.append(tuple(sorted(row)))
        return tuple(rows)

    def strong(self, index):
        """The moves as a list of (action, list of sets of one pair)."""
        return [(action, [{rest} for rest in rests]) for action, rests in self.rows[index]]


def first(one, other):
    """The first triple."""
    return (0, 0, frozenset((s, t) for s, a in enumerate(one.names) for t, b in enumerate(other.names) if a == b))


def behind(rest, other, matching, pair):
    """The triple behind two rests."""
    (i, keys), (j, more) = rest, other
    same = matching | ({pair} if pair else set())
    return (i, j, frozenset((s, t) for s, a in enumerate(keys) for t, b in enumerate(more) if (a, b) in same))


def matched(action, other, matching):
    """Whether two moves match."""
    return action[0] == other[0] and all(pair in matching for pair in zip(action[1:], other[1:]))


def cases(one, other, triple, word):
    """The list of (rest, rest, pair of the names that come up)."""
    i, j, matching = triple
    kn, kn2 = one.known[i], other.known[j]
    if word == "open":
        return [(0, 0, (kn, kn2))]
    if word != "take":
        return [(0, 0, None)]
    alone = [a for a in range(kn) if a not in {pair[0] for pair in matching}]
    alone2 = [a for a in range(kn2) if a not in {pair[1] for pair in matching}]
    found = [*matching, *[(a, kn2) for a in alone], *[(kn, a) for a in alone2], (kn, kn2)]
    return [(a, b, (a, b)) for a, b in found]


def behind_moves(one, other, triple, move, answer):
    """For each case the set of the triples behind two moves that match."""
    return [
        {behind(rest, back, triple[2], pair) for rest in move[1][r] for back in answer[1][s]}
        for r, s, pair in cases(one, other, triple, move[0][0])]


def met(one, other, start, weak=False):
    """The set of the triples that are met from one."""
    found = {start}
    ahead = [start]
    while ahead:
        triple = ahead.pop()
        i, j, matching = triple
        moves = one.weak(i).items() if weak else one.strong(i)
        answers = list(other.weak(j).items()) if weak else other.strong(j)
        for move in moves:
            for answer in answers:
                if matched(move[0], answer[0], matching):
                    for triples in behind_moves(one, other, triple, move, answer):
                        ahead.extend(triples - found)
                        found |= triples
    return found


def answered(one, other, triple, likeness, held, rooted=False):
    """Whether all moves of a triple are answered with triples that are held."""
    i, j, matching = triple
    strong = (one.strong(i), other.strong(j))
    answers = strong
    if likeness == "weak":
        answers = tuple(list(side.weak(index).items()) for side, index in ((one, i), (other, j)))
        if rooted:
            answers = tuple(
                [(action, [side.silent(index, 1)] if action == ("wait",) else sets) for action, sets in row]
                for side, index, row in ((one, i, answers[0]), (other, j, answers[1])))
    for move in strong[0]:
        pairs = [(move, answer) for answer in answers[1] if matched(move[0], answer[0], matching)]
        if not enough(one, other, triple, pairs, likeness, held):
            return False
    for move in strong[1]:
        pairs = [(answer, move) for answer in answers[0] if matched(answer[0], move[0], matching)]
        if not enough(one, other, triple, pairs, likeness, held):
            return False
    return True


def enough(one, other, triple, pairs, likeness, held):
    """Whether one of these pairs of moves is enough, or for each case one of them."""
    behinds = [behind_moves(one, other, triple, move, answer) for move, answer in pairs]
    if not behinds:
        return False
    if likeness == "late":
        return any(all(triples <= held for triples in by_case) for by_case in behinds)
    return all(any(triples & held for triples in of_case) for of_case in zip(*behinds))


def rounds(one, other, likeness, start=None):
    """The pair (set of what always stays, dict of the rounds in which the others go)."""
    start = start or first(one, other)
    held = met(one, other, start, likeness == "weak")
    gone = {}
    for number in itertools.count(1):
        going = {triple for triple in held if not answered(one, other, triple, likeness, held)}
        if not going:
            return held, gone
        gone.update({triple: number for triple in going})
        held = held - going


def told(triples):
    """Triples as the program tells them."""
    return tuple(sorted((i, j, tuple(sorted(matching))) for i, j, matching in triples))


def read(paper):
    """Triples as they are told here."""
    return {(i, j, frozenset(matching)) for i, j, matching in paper}


def goes_round(side, marked, wait):
    """Whether a wait goes round all other moves, if these waits are marked."""
    i, m = wait
    (k, keys), = side.rows[i][m][1]
    known = side.known[i]
    for v, (action, rests) in enumerate(side.rows[i]):
        if v == m:
            continue
        good = False
        for other, others in side.rows[k]:
            if (other[0], *[keys[number] for number in other[1:]]) != action:
                continue
            good = good or all(
                joins(side, marked, rest, other, others, keys, known, number)
                for number, rest in enumerate(rests))
        if not good:
            return False
    return True


def joins(side, marked, rest, other, others, keys, known, number):
    """Whether a rest and the one for the same name behind the wait come together."""
    came = number if other[0] == "take" else known
    back = dict(map(reversed, enumerate(keys)))
    chosen = back.get(number, len(keys)) if other[0] == "take" else 0
    n, inner = others[chosen]
    names = [came if key == len(keys) else keys[key] for key in inner]
    l, over = rest
    ends = [(l, list(over))]
    for place, (action, rests) in enumerate(side.rows[l]):
        if action == ("wait",) and (l, place) in marked:
            ends.append((rests[0][0], [over[number] for number in rests[0][1]]))
    return (n, names) in ends


def greatest_marks(side):
    """The union of all sets of waits that are marks; only for few waits."""
    waits = [(i, m) for i, row in enumerate(side.rows) for m, (action, _) in enumerate(row) if action == ("wait",)]
    found = set()
    for many in range(len(waits) + 1):
        for marked in itertools.combinations(waits, many):
            if all(goes_round(side, set(marked), wait) for wait in marked):
                found |= set(marked)
    return tuple(sorted(found)), len(waits)
