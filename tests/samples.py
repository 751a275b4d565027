"""Short ways to write pieces, values of every kind, and how errors are asked for."""

import random
import unittest

from passednames import errors

STOP = ("one", ())
HOLE = ("hole",)


def send(a, b, piece=STOP):
    return ("send", a, b, piece)


def take(a, x, piece=STOP):
    return ("take", a, x, piece)


def wait(piece=STOP):
    return ("wait", piece)


def alike(a, b, branch):
    return ("alike", a, b, branch)


def unlike(a, b, branch):
    return ("unlike", a, b, branch)


def one(*branches):
    return ("one", branches)


def beside(*pieces):
    return ("beside", pieces)


def new(x, piece):
    return ("new", x, piece)


def call(number, *names):
    return ("call", number, names)


def main(piece, *definitions):
    """The program with this MAIN and these definitions."""
    return (definitions, piece)


def waits(many, piece=STOP):
    """So many waits ahead of a piece."""
    for _ in range(many):
        piece = wait(piece)
    return piece


def of_parts(many):
    """A program with exactly so many parts, none of them deep: nests of full ones in a beside."""
    rest = many - 5
    pieces = []
    for _ in range(4):
        branches = min(10, rest // 2)
        pieces.append(one(*[wait(STOP)] * branches))
        rest -= 2 * branches
    if rest == 1:
        full = [place for place, piece in enumerate(pieces) if piece[1]][-1]
        pieces[full] = one(*pieces[full][1][:-1], wait(wait(STOP)))
        rest -= 1
    assert rest == 0
    return main(beside(*pieces))


class Odd:
    """A value that can be compared with nothing and is never a key."""

    __hash__ = None

    def __eq__(self, other):
        raise AssertionError("an unknown value was compared")


def values_of_every_kind():
    """Values of every kind; none of them is a program, a piece, a row of names or a standing."""
    return [
        None, True, False, -1, 10, 1.0, 0.0, float("nan"), 1j, "", "a", "send", "one", b"", b"ab", [], {}, set(),
        frozenset(), object(), Odd(), len, int, range(3), [1, 2], {"a": 1}, ("hole",), (None,), ((),), ([],),
        (True,), ("one",), ("one", []), ["one", ()], ["wait", STOP], (b"one", ()), (1, ()), 10 ** 30, -10 ** 30,
        "\u20ac", lambda: 0, Exception(), (Odd(), Odd()), (Odd(),), ([], []), ((), ()), ((), None),
    ]


class Case(unittest.TestCase):
    """Asks for an error, its class and its attributes, to the kind."""

    def refused(self, error, told, asked, *args, **more):
        """That the call raises just this error with these attributes (the values of a dict)."""
        try:
            result = asked(*args, **more)
        except errors.PassError as raised:
            self.assertIs(type(raised), error, (asked, args, vars(raised)))
            for name, value in told.items():
                self.assert_same(getattr(raised, name), value)
        else:
            self.fail(f"{asked} of {args} gave {result!r}")

    def assert_same(self, got, wanted):
        """That both are equal and of the same kinds all through; odd values are the same ones."""
        if got is wanted:
            return
        self.assertIs(type(got), type(wanted), (got, wanted))
        if isinstance(wanted, (tuple, list)):
            self.assertEqual(len(got), len(wanted), (got, wanted))
            for left, right in zip(got, wanted):
                self.assert_same(left, right)
        else:
            self.assertEqual(got, wanted)


def random_piece(chance, deep, many_definitions, free=(0, 1, 2, 3), body=False, guarded=True, branch=False):
    """A piece with names from free, calls of 2 names if there are definitions."""
    words = ["send", "take", "wait", "alike", "unlike"]
    if not branch:
        words += ["one", "one", "new"] + ([] if body else ["beside", "beside"])
        if many_definitions and guarded:
            words += ["call"]
    word = chance.choice(words) if deep > 1 else "stop"
    a, b = chance.choice(free), chance.choice(free)

    def below(names=free, guards=False, due=False):
        return random_piece(chance, deep - 1, many_definitions, names, body, guarded or guards, due)

    if word == "stop":
        return wait(STOP) if branch else STOP
    if word == "send":
        return send(a, b, below(guards=True))
    if word == "take":
        return take(a, b, below(tuple(sorted({*free, b})), guards=True))
    if word == "wait":
        return wait(below(guards=True))
    if word in ("alike", "unlike"):
        return (word, a, b, below(due=True))
    if word == "one":
        return one(*[below(due=True) for _ in range(chance.randrange(4))])
    if word == "beside":
        return beside(*[below() for _ in range(chance.randrange(1, 4))])
    if word == "new":
        x = chance.randrange(5)
        return new(x, below(tuple(sorted({*free, x}))))
    return call(chance.randrange(many_definitions), a, b)


def random_programs(seed, many, deep=5):
    """So many programs that come of this number, the same each time."""
    chance = random.Random(seed)
    programs = []
    while len(programs) < many:
        definitions = []
        number = chance.randrange(3)
        for _ in range(number):
            body = random_piece(chance, 4, number, (0, 1), body=True, guarded=False)
            definitions.append(((0, 1), body))
        program = (tuple(definitions), random_piece(chance, deep, number))
        if count_parts(program) <= 80:
            programs.append(program)
    return programs


def count_parts(program):
    """How many parts there are, counted by hand."""
    return sum(count_piece(piece) for piece in [body for _, body in program[0]] + [program[1]])


def count_piece(piece):
    below = {"one": 1, "beside": 1}.get(piece[0])
    if below:
        return 1 + sum(count_piece(part) for part in piece[1])
    if piece[0] in ("call", "hole"):
        return 1
    return 1 + count_piece(piece[-1])


def near_programs(seed, many, deep=4):
    """So many pairs (program, one that differs from it in one piece), the same each time."""
    chance = random.Random(seed)
    pairs = []
    while len(pairs) < many:
        program = random_programs(chance.randrange(10 ** 6), 1, deep)[0]
        definitions, piece = program
        other = (definitions, changed(chance, piece, len(definitions), chance.randrange(8)))
        if count_parts(other) <= 80:
            pairs.append((program, other))
    return pairs


def changed(chance, piece, definitions, steps):
    """The piece, somewhere within it another one, so many steps down at most."""
    word = piece[0]
    if word in ("one", "beside") and piece[1]:
        place = chance.randrange(len(piece[1]))
        if steps == 0 and word == "one" and chance.randrange(2):
            return (word, piece[1] + (changed(chance, piece[1][place], definitions, 2),))
        inner = changed(chance, piece[1][place], definitions, steps - 1)
        if word == "one" and inner[0] not in LATER_BRANCHES:
            return piece
        return (word, piece[1][:place] + (inner,) + piece[1][place + 1:])
    if word in ("send", "take", "alike", "unlike") and steps <= 0 and chance.randrange(2):
        return (word, piece[1], chance.randrange(4), piece[3])
    if word == "wait" and steps <= 0 and chance.randrange(2):
        return wait(piece) if chance.randrange(2) else piece[1]
    if word in ("alike", "unlike"):
        inner = changed(chance, piece[3], definitions, steps - 1)
        return piece[:3] + (inner if inner[0] in LATER_BRANCHES else piece[3],)
    if word in ("send", "take", "wait", "new"):
        return piece[:-1] + (changed(chance, piece[-1], definitions, steps - 1),)
    return random_piece(chance, 3, definitions)


LATER_BRANCHES = ("send", "take", "wait", "alike", "unlike")


def take_families(seed, many):
    """So many pairs of choices of takes with tests of the taken name: early, but not late alike ones among them."""
    chance = random.Random(seed)
    pairs = []
    for _ in range(many):
        goods = [wait(STOP), wait(wait(STOP)), send(0, 1), wait(send(0, 2))]
        bodies = [random_tests(chance, goods) for _ in range(3)]
        more = [random_tests(chance, goods) for _ in range(chance.randrange(2))]
        mixed = one(*[alike(1, 2, each) if chance.randrange(2) else unlike(1, 2, each) for each in chance.sample(goods, 2)])
        first = one(*[take(0, 1, body) for body in bodies + more])
        second = one(*[take(0, 1, body) for body in bodies + more + [mixed]][chance.randrange(2):])
        pairs.append((main(first), main(second)))
    return pairs


def random_tests(chance, goods):
    """One of goods, or the one of it under a test and of another one under another test."""
    first, second = chance.choice(goods), chance.choice(goods)
    name = chance.choice((0, 2, 3))
    return chance.choice([first, first, one(alike(1, name, first), unlike(1, name, second)), alike(1, name, first), STOP])


def circling_programs(seed, many):
    """So many programs with definitions that pass their names on in another order, again and again."""
    chance = random.Random(seed)
    programs = []
    for _ in range(many):
        definitions = []
        for _ in range(2):
            branches = [circling_branch(chance) for _ in range(chance.randrange(1, 4))]
            definitions.append(((0, 1), one(*branches)))
        threads = [call(chance.randrange(2), *chance.sample((0, 1, 2), 2)) for _ in range(chance.randrange(1, 3))]
        programs.append((tuple(definitions), beside(*threads)))
    return programs


def circling_branch(chance):
    """A branch over the names 0 and 1 that goes on by a call."""
    def again(*names):
        return call(chance.randrange(2), *chance.choice(names))

    return chance.choice([
        wait(again((1, 0), (0, 1), (0, 0), (1, 1))),
        send(0, 1, again((1, 0), (0, 1))),
        take(0, 1, again((1, 0), (0, 1))),
        take(0, 2, again((1, 2), (2, 1), (0, 2))),
        wait(new(1, again((0, 1), (1, 0)))),
        take(1, 2, wait(again((0, 1), (1, 0), (0, 2)))),
        alike(0, 1, wait(again((0, 1)))),
        send(1, 0, wait(STOP)),
        new_sent(again),
    ])


def new_sent(again):
    """A branch that opens a new name and goes on with it."""
    return send(0, 0, new(1, send(0, 1, again((0, 1), (1, 0)))))
