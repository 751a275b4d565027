"""Row programs: short ways to write them, ones that come of a number, their kinds and what becomes of them once more."""

import random

from tests import oracle
from tests.samples import STOP, alike, beside, call, count_piece, new, one, send, take, unlike, wait

OUT = ("single",)


def sends(a, names, piece=STOP):
    return ("sends", a, tuple(names), piece)


def takes(a, names, piece=STOP):
    return ("takes", a, tuple(names), piece)


def row_of(*kinds):
    return ("row", *kinds)


def random_kind(chance):
    """A kind: OUT, or a row of these and of rows."""
    if chance.randrange(5) < 2:
        return OUT
    return row_of(*[OUT if chance.randrange(3) else row_of(*[OUT] * chance.randrange(3)) for _ in range(chance.randrange(4))])


def random_row_piece(chance, deep, scope, definitions=(), body=False, guarded=True, due=False):
    """A piece over names of these kinds that keeps to them."""
    words = ["wait", "out", "test"] + ["pass"] * 9 + ([] if due else ["one", "one", "new"])
    words += ["beside"] if not due and not body else []
    words += ["call"] if definitions and guarded and not due else []
    word = chance.choice(words) if deep > 1 else "stop"
    names = sorted(scope)

    def below(more=(), guards=True, branch=False):
        return random_row_piece(chance, deep - 1, {**scope, **dict(more)}, definitions, body, guarded or guards, branch)

    def of_kind(kind):
        found = [name for name in names if scope[name] == kind]
        return chance.choice(found) if found else None

    if word == "pass":
        rows = [name for name in names if scope[name][0] == "row"]
        if rows:
            channel = chance.choice(rows)
            kinds = scope[channel][1:]
            if chance.randrange(2):
                bound = chance.sample(range(10) if chance.randrange(2) else range(4), len(kinds))
                return takes(channel, bound, below(zip(bound, kinds)))
            sent = [of_kind(kind) for kind in kinds]
            if None not in sent:
                return sends(channel, sent, below())
        word = "out"
    if word == "out" and of_kind(OUT) is not None:
        if chance.randrange(2):
            return send(of_kind(OUT), of_kind(OUT), below())
        bound = chance.randrange(5)
        return take(of_kind(OUT), bound, below([(bound, OUT)]))
    if word == "test" and names:
        a = chance.choice(names)
        return (alike if chance.randrange(2) else unlike)(a, of_kind(scope[a]), below(guards=False, branch=True))
    if word == "one":
        return one(*[below(guards=False, branch=True) for _ in range(chance.randrange(1, 4))])
    if word == "new":
        bound = chance.randrange(6)
        return new(bound, below([(bound, random_kind(chance))], guards=False))
    if word == "beside":
        return beside(*[below(guards=False) for _ in range(chance.randrange(2, 4))])
    if word == "call":
        number = chance.randrange(len(definitions))
        told = [of_kind(kind) for kind in definitions[number]]
        if None not in told:
            return call(number, *told)
    return wait(below()) if due or deep > 1 else STOP


def random_row_program(chance, deep=5):
    """A row program whose kinds hold, with definitions or without."""
    kinds = [[random_kind(chance) for _ in range(chance.randrange(3))] for _ in range(chance.randrange(3))]
    definitions = []
    for row in kinds:
        params = chance.sample(range(6), len(row))
        body = random_row_piece(chance, 3, dict(zip(params, row)), kinds, body=True, guarded=False)
        definitions.append((tuple(params), body))
    free = {name: OUT for name in range(3)}
    # Names inside carry rows, so that there is something to pass.
    inner = {name: random_kind(chance) for name in chance.sample(range(3, 6), 1 + chance.randrange(2))}
    piece = beside(*[random_row_piece(chance, deep, {**free, **inner}, kinds) for _ in range(chance.randrange(2, 4))])
    for name in inner:
        piece = new(name, piece)
    return (tuple(definitions), piece)


def random_row_programs(seed, many, deep=5, most=40):
    """So many row programs in which rows can pass, the same each time."""
    chance = random.Random(seed)
    programs = []
    while len(programs) < many:
        program = random_row_program(chance, deep)
        if sum(count_piece(piece) for piece in [body for _, body in program[0]] + [program[1]]) <= most:
            programs.append(program)
    return programs


def first_unfit(program):
    """The path of the first piece with which the kinds can not hold, None if they can: told by all that is told so far."""
    definitions, main = program
    scopes = {}
    for number, (params, _) in enumerate(definitions):
        scopes[(0, number, 1)] = {param: ("param", number, param) for param in params}
    scopes[(1,)] = {name: "out" for name in range(10)}
    equal, carried = [], [("out", "single", ("out",))]
    for root in sorted(scopes):
        ahead = [(root, oracle.at(program, root), scopes[root])]
        while ahead:
            path, piece, scope = ahead.pop()
            word = piece[0]
            bound = {"take": piece[2:3], "new": piece[1:2], "takes": piece[2] if word == "takes" else ()}.get(word, ())
            inner = {**scope, **{name: (path, name) for name in bound}}
            if word in ("alike", "unlike"):
                equal.append((scope[piece[1]], scope[piece[2]]))
            elif word == "call":
                equal += [(("param", piece[1], param), scope[name]) for param, name in zip(definitions[piece[1]][0], piece[2])]
            elif word in ("send", "take"):
                carried.append((scope[piece[1]], "single", ((scope if word == "send" else inner)[piece[2]],)))
            elif word in ("sends", "takes"):
                carried.append((scope[piece[1]], "row", tuple((scope if word == "sends" else inner)[name] for name in piece[2])))
            if not can_hold(equal, carried):
                return path
            if word in ("one", "beside"):
                ahead += [((*path, 1, place), part, inner) for place, part in enumerate(piece[1])][::-1]
            elif word != "call":
                ahead.append(((*path, oracle.LATER[word]), piece[-1], inner))
    return None


def can_hold(equal, carried):
    """Whether kinds can be told so: classes grow until nothing more is one."""
    classes = []

    def class_of(node):
        for each in classes:
            if node in each:
                return each
        classes.append({node})
        return classes[-1]

    def merge(one_node, other):
        first, second = class_of(one_node), class_of(other)
        if first is second:
            return False
        classes.remove(second)
        first |= second
        return True

    for one_node, other in equal:
        merge(one_node, other)
    changed = True
    while changed:
        changed = False
        for node, sort, inner in carried:
            for other, other_sort, other_inner in carried:
                if class_of(node) is not class_of(other):
                    continue
                if sort != other_sort or len(inner) != len(other_inner):
                    return False
                for left, right in zip(inner, other_inner):
                    changed = merge(left, right) or changed
    return True


def least(names):
    """The least name that is none of these."""
    return min(set(range(10)) - set(names))


def told_singled(piece):
    """What a piece becomes if rows pass name by name."""
    word = piece[0]
    if word == "beside":
        return beside(*[told_singled(part) for part in piece[1]])
    if word == "new":
        return new(piece[1], told_singled(piece[2]))
    if word == "call":
        return piece
    used = oracle.free(piece)
    news = []
    branches = []
    for branch in (piece[1] if word == "one" else [piece]):
        tests = []
        while branch[0] in ("alike", "unlike"):
            tests.append(branch[:3])
            branch = branch[3]
        behind = told_singled(branch[-1])
        if branch[0] == "sends":
            own = least(used)
            used = used | {own}
            news.append(own)
            for name in branch[2][::-1]:
                behind = send(own, name, behind)
            behind = send(branch[1], own, behind)
        elif branch[0] == "takes":
            own = least({*branch[2], *oracle.free(branch[3])})
            for name in branch[2][::-1]:
                behind = take(own, name, behind)
            behind = take(branch[1], own, behind)
        else:
            behind = branch[:-1] + (behind,)
        for test in tests[::-1]:
            behind = (*test, behind)
        branches.append(behind)
    made = one(*branches) if word == "one" else branches[0]
    for own in news[::-1]:
        made = new(own, made)
    return made


def passing_program(chance):
    """A row program in which two threads pass rows to each other, or to a third one that begins like one of them."""
    inner = row_of(*[OUT] * chance.randrange(3))
    kinds = {name: row_of(*[chance.choice((OUT, OUT, inner)) for _ in range(chance.randrange(4))]) for name in (3, 4)}
    scope = {0: OUT, 1: OUT, 5: inner, **kinds}
    steps = [(chance.choice((3, 4)), chance.randrange(2)) for _ in range(chance.randrange(1, 3))]
    threads = [passing_thread(chance, steps, scope, side) for side in (0, 1)]
    if chance.randrange(3) == 0:
        threads.append(passing_thread(chance, steps[:1], scope, chance.randrange(2)))
    return ((), new(3, new(4, new(5, beside(*threads)))))


def passing_thread(chance, steps, scope, side):
    """A thread that does these steps, as the one or the other side, and something more here and there."""
    if not steps:
        return random_row_piece(chance, 2, scope)
    (channel, direction), rest = steps[0], steps[1:]
    kinds = scope[channel][1:]
    if direction == side:
        sent = [chance.choice([name for name in scope if scope[name] == kind]) for kind in kinds]
        piece = sends(channel, sent, passing_thread(chance, rest, scope, side))
    else:
        bound = chance.sample((1, 2, 6, 7), len(kinds))
        piece = takes(channel, bound, passing_thread(chance, rest, {**scope, **dict(zip(bound, kinds))}, side))
    more = chance.randrange(6)
    if more == 0:
        return one(wait(), piece)
    if more == 1:
        return one(piece, piece)
    if more == 2:
        return alike(channel, channel, piece)
    if more == 3:
        outs = [name for name in scope if scope[name] == OUT]
        return beside(piece, send(chance.choice(outs), chance.choice(outs)))
    return piece


def passing_programs(seed, many):
    """So many of these that are not too deep told name by name, the same each time."""
    chance = random.Random(seed)
    programs = []
    while len(programs) < many:
        program = passing_program(chance)
        if depth(told_singled(program[1])) <= 12:
            programs.append(program)
    return programs


def depth(piece):
    """How deep a piece is."""
    if piece[0] in ("one", "beside"):
        return 1 + max([depth(part) for part in piece[1]], default=0)
    return 1 if piece[0] == "call" else 1 + depth(piece[-1])
