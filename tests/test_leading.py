"""Point 45: rules, the steps by which they lead programs, and unfolding."""

import random

from passednames.errors import BadLikeness, BadPiece, BadProgram, BadRule, BadStep, NotFinite, TooGreat
from passednames.formed import joined_forms
from passednames.leading import is_led, led, led_all, unfolding
from passednames.programs import free_names, parts_of, renamed, same_but_bound
from tests import samples
from tests.samples import (Case, HOLE, STOP, Odd, beside, call, count_parts, main, new, of_parts, one, random_piece, random_programs, send,
                           take, unlike, values_of_every_kind, wait, waits)

FOUR = ("early", "late", "weak", "rooted")
ARGUMENTS = {
    "order": "i", "bare": "", "once": "i", "never": "i", "split": "inn", "join": "i", "drop": "i", "flat": "i", "out": "i",
    "meet": "", "swap": "", "forget": "", "turn": "n", "within": "", "pass": "", "exchange": "", "about": "", "same": "s",
    "early": "iin", "hush": "", "ahead": "i", "reach": "ii"}
FIRST = {"i": 0, "n": 0, "s": 0}
NOTHING = ("beside", ())
NEW = new(4, send(4, 4))
A, B, C = send(0, 1), take(1, 2), wait(send(2, 2))


def like(a, b, branch):
    return samples.alike(a, b, branch)


def kept_by(word):
    """The likenesses that a rule keeps."""
    if word in ("hush", "ahead", "reach"):
        return ("weak", "rooted")
    return ("early", "weak", "rooted") if word == "early" else FOUR


def arguments(word, indexes=(0, 1, 2), names=(0, 1, 3)):
    """All rows of arguments from these."""
    rows = [()]
    for kind in ARGUMENTS[word]:
        rows = [row + (value,) for row in rows for value in {"i": indexes, "n": names, "s": (0, 1)}[kind]]
    return rows


class Rules(Case):

    def leads(self, word, args, before, after, around=lambda piece: piece, path=()):
        """A rule at MAIN, and within something."""
        self.assert_same(led(main(before), (word, (1,), *args)), main(after))
        self.assert_same(led(program=main(before), step=(word, (1,), *args)), main(after))
        for outer, inner in ((lambda piece: wait(piece), (1,)), (lambda piece: beside(STOP, new(3, take(3, 4, piece))), (1, 1, 2, 3)),
                             (lambda piece: one(wait(), like(0, 1, send(0, 1, piece))), (1, 1, 3, 3))):
            body = ((0,), take(0, 1, STOP))
            self.assert_same(led(main(outer(before), body), (word, (1, *inner), *args)), main(outer(after), body))

    def stays(self, word, args, *pieces):
        """A rule that does not fit."""
        for piece in pieces:
            self.refused(BadStep, {"place": (1,)}, led, main(piece), (word, (1,), *args))
            self.refused(BadStep, {"place": (1, 1)}, led, main(wait(piece)), (word, (1, 1), *args))

    def test_order(self):
        self.leads("order", (0,), one(A, B), one(B, A))
        self.leads("order", (1,), one(A, B, C), one(A, C, B))
        self.leads("order", (0,), beside(STOP, A, B), beside(A, STOP, B))
        self.leads("order", (2,), beside(STOP, A, B, NEW), beside(STOP, A, NEW, B))
        self.stays("order", (0,), one(), one(A), beside(), beside(A), A, wait(one(A, B)), new(0, one(A, B)), like(0, 1, A))
        self.stays("order", (1,), one(A, B), beside(A, B))
        self.stays("order", (80,), one(A, B))

    def test_bare(self):
        self.leads("bare", (), one(A), A)
        self.leads("bare", (), one(like(0, 1, A)), like(0, 1, A))
        self.leads("bare", (), beside(STOP), STOP)
        self.leads("bare", (), beside(new(2, A)), new(2, A))
        self.stays("bare", (), one(), one(A, B), beside(), beside(A, A), A, new(0, one(A)))

    def test_once(self):
        self.leads("once", (0,), one(A, A), one(A))
        self.leads("once", (1,), one(B, A, A, A), one(B, A, A))
        self.stays("once", (0,), one(A), one(A, B), one(), beside(A, A), A, one(take(0, 1), take(0, 2)), one(A, B, A))
        self.stays("once", (1,), one(A, A), one(A, A, B))

    def test_never(self):
        self.leads("never", (0,), one(unlike(1, 1, A)), one())
        self.leads("never", (1,), one(A, like(0, 1, unlike(2, 2, like(3, 3, B))), C), one(A, C))
        self.stays("never", (0,), one(A), one(unlike(0, 1, A)), one(like(1, 1, A)), one(wait(unlike(1, 1, A))), unlike(1, 1, A), one(),
                   beside(unlike(1, 1, A)), one(A, unlike(1, 1, B)))
        self.stays("never", (1,), one(unlike(1, 1, A)))

    def test_split_and_join(self):
        for before, place, names, after in (
                (one(A), 0, (3, 4), one(like(3, 4, A), unlike(3, 4, A))),
                (one(A, B, C), 1, (4, 3), one(A, like(4, 3, B), unlike(4, 3, B), C)),
                (one(like(0, 0, A)), 0, (9, 9), one(like(9, 9, like(0, 0, A)), unlike(9, 9, like(0, 0, A))))):
            self.leads("split", (place, *names), before, after)
            self.leads("join", (place,), after, before)
        self.stays("split", (0, 0, 1), one(), A, beside(A), new(0, one(A)), like(0, 1, A))
        self.stays("split", (1, 0, 1), one(A))
        self.stays("split", (0, 0, 1), one(*[A] * 20))
        self.leads("split", (18, 0, 1), one(*[A] * 19), one(*[A] * 18, like(0, 1, A), unlike(0, 1, A)))
        self.stays("join", (0,), one(like(0, 1, A)), one(like(0, 1, A), unlike(1, 0, A)), one(like(0, 1, A), unlike(0, 1, B)),
                   one(unlike(0, 1, A), like(0, 1, A)), one(like(0, 1, A), like(0, 1, A)), one(unlike(0, 1, A), unlike(0, 1, A)),
                   beside(like(0, 1, A), unlike(0, 1, A)), one(A, A), one(like(0, 1, A), A, unlike(0, 1, A)),
                   one(like(0, 1, A), unlike(0, 2, A)))
        self.stays("join", (1,), one(like(0, 1, A), unlike(0, 1, A)))

    def test_drop_and_flat(self):
        self.leads("drop", (0,), beside(STOP), beside())
        self.leads("drop", (1,), beside(A, NOTHING, STOP), beside(A, STOP))
        self.leads("drop", (2,), beside(A, B, STOP, C), beside(A, B, C))
        self.stays("drop", (0,), beside(), beside(A), beside(beside(STOP)), beside(new(0, STOP)), beside(one(wait())), one(A), STOP,
                   beside(A, STOP))
        self.stays("drop", (1,), beside(STOP), beside(STOP, A))
        self.leads("flat", (0,), beside(beside(A, B), C), beside(A, B, C))
        self.leads("flat", (1,), beside(A, NOTHING), beside(A))
        self.leads("flat", (1,), beside(A, beside(B, beside(C)), C), beside(A, B, beside(C), C))
        self.stays("flat", (0,), beside(), beside(A, beside(B)), one(A), beside(one(A)), beside(new(0, beside(A))), wait(beside(beside(A))))
        self.stays("flat", (1,), beside(beside(A)))
        # Five items would be no piece.
        self.stays("flat", (0,), beside(beside(A, B, C), A, B))
        self.leads("flat", (0,), beside(beside(A, B, C), A), beside(A, B, C, A))

    def test_out(self):
        self.leads("out", (0,), beside(new(5, send(5, 5)), A), new(5, beside(send(5, 5), A)))
        self.leads("out", (1,), beside(take(0, 5), new(5, send(5, 5)), new(5, STOP)), new(5, beside(take(0, 5), send(5, 5), new(5, STOP))))
        self.leads("out", (0,), beside(new(0, STOP)), new(0, beside(STOP)))
        self.stays("out", (0,), beside(new(0, STOP), A), beside(A), beside(), one(A), new(0, STOP), beside(A, new(5, B)),
                   beside(new(2, A), new(3, C)))
        self.stays("out", (1,), beside(new(5, A)), beside(A, new(1, C)))

    def test_swap_forget(self):
        self.leads("swap", (), new(1, new(2, A)), new(2, new(1, A)))
        self.stays("swap", (), new(1, new(1, A)), new(1, A), new(1, wait(new(2, A))), take(1, 2, new(3, A)), A, beside(new(1, new(2, A))))
        self.leads("forget", (), new(5, A), A)
        self.leads("forget", (), new(5, new(5, send(5, 5))), new(5, send(5, 5)))
        self.leads("forget", (), new(2, B), B)
        self.stays("forget", (), new(1, A), new(0, beside(STOP, A)), A, take(1, 2), STOP)

    def test_turn(self):
        self.leads("turn", (6,), new(5, send(5, 0)), new(6, send(6, 0)))
        self.leads("turn", (5,), new(5, send(5, 0)), new(5, send(5, 0)))
        self.leads("turn", (1,), take(1, 2, send(2, 0)), take(1, 1, send(1, 0)))
        self.leads("turn", (2,), take(1, 2, send(2, 0)), take(1, 2, send(2, 0)))
        self.leads("turn", (0,), new(5, STOP), new(0, STOP))
        # The inner name gives way, as `renamed` lets it.
        self.leads("turn", (6,), new(5, take(0, 6, send(5, 6))), new(6, take(0, 0, send(6, 0))))
        self.leads("turn", (6,), take(0, 5, new(5, send(5, 5))), take(0, 6, new(5, send(5, 5))))
        self.stays("turn", (0,), new(5, send(5, 0)), take(1, 5, send(0, 5)), A, wait(new(5, STOP)), STOP, beside(new(1, STOP)))
        self.stays("turn", (6,), new(5, new(5, send(5, 6))))

    def test_tests(self):
        self.leads("pass", (), like(3, 3, A), A)
        self.stays("pass", (), like(3, 4, A), unlike(3, 3, A), A, one(like(3, 3, A)), unlike(3, 4, like(3, 3, A)))
        self.leads("exchange", (), like(3, 4, unlike(5, 6, A)), unlike(5, 6, like(3, 4, A)))
        self.leads("exchange", (), unlike(3, 4, unlike(3, 6, like(1, 1, A))), unlike(3, 6, unlike(3, 4, like(1, 1, A))))
        self.stays("exchange", (), like(3, 4, A), A, like(3, 4, wait(like(3, 4, A))), one(like(3, 4, like(1, 2, A))), STOP)
        self.leads("about", (), like(3, 4, A), like(4, 3, A))
        self.leads("about", (), unlike(3, 3, A), unlike(3, 3, A))
        self.leads("about", (), unlike(0, 9, like(1, 2, A)), unlike(9, 0, like(1, 2, A)))
        self.stays("about", (), A, B, wait(like(3, 4, A)), one(like(3, 4, A)), new(0, like(3, 4, A)))

    def test_same(self):
        self.leads("same", (0,), like(3, 4, send(3, 4)), like(3, 4, send(3, 3)))
        self.leads("same", (1,), like(3, 4, send(3, 4)), like(3, 4, send(4, 4)))
        self.leads("same", (0,), like(3, 4, take(1, 3, send(3, 4))), like(3, 4, take(1, 0, send(0, 3))))
        self.leads("same", (1,), like(3, 4, take(0, 3, send(3, 4))), like(3, 4, take(0, 3, send(3, 4))))
        self.leads("same", (0,), like(3, 3, send(3, 3)), like(3, 3, send(3, 3)))
        self.stays("same", (0,), unlike(3, 4, send(3, 4)), send(3, 4), one(like(3, 4, A)))
        self.stays("same", (1,), unlike(3, 4, send(3, 4)))

    def test_meet(self):
        self.leads("meet", (), beside(), one())
        self.leads("meet", (), beside(STOP, STOP), one())
        self.leads("meet", (), beside(A), one(send(0, 1, beside(STOP))))
        self.leads("meet", (), beside(send(0, 1, C), take(3, 5, send(5, 5))),
                   one(send(0, 1, beside(C, take(3, 5, send(5, 5)))), take(3, 5, beside(send(0, 1, C), send(5, 5))),
                       like(0, 3, wait(beside(C, send(1, 1))))))
        # All tests of the first, then those of the second, a send ahead of a take in the order of the sends' items.
        self.leads("meet", (), beside(one(like(1, 2, take(6, 7)), unlike(3, 4, wait())), like(5, 5, unlike(6, 6, send(8, 9)))),
                   one(like(1, 2, take(6, 7, beside(STOP, like(5, 5, unlike(6, 6, send(8, 9)))))),
                       unlike(3, 4, wait(beside(STOP, like(5, 5, unlike(6, 6, send(8, 9)))))),
                       like(5, 5, unlike(6, 6, send(8, 9, beside(one(like(1, 2, take(6, 7)), unlike(3, 4, wait())), STOP)))),
                       like(5, 5, unlike(6, 6, like(1, 2, like(8, 6, wait(beside(STOP, STOP))))))))
        left, right = one(send(0, 1, wait()), take(2, 9)), one(take(3, 9, send(9, 9)), send(4, 5), wait(C))
        self.leads("meet", (), beside(left, right),
                   one(send(0, 1, beside(wait(), right)), take(2, 9, beside(STOP, right)), take(3, 9, beside(left, send(9, 9))),
                       send(4, 5, beside(left, STOP)), wait(beside(left, C)), like(0, 3, wait(beside(wait(), send(1, 1)))),
                       like(4, 2, wait(beside(STOP, STOP)))))
        self.stays("meet", (), one(A), A, beside(A, new(0, B)), beside(beside(A), A), new(0, beside(A)), beside(new(0, A)))

    def test_meet_turns_takes(self):
        # 0 is free in what the take goes on to, 1 in the other item, 2 in both.
        item = send(1, 2, wait(send(5, 5)))
        self.leads("meet", (), beside(take(9, 5, send(5, 0, send(2, 2))), item),
                   one(take(9, 3, beside(send(3, 0, send(2, 2)), item)), send(1, 2, beside(take(9, 5, send(5, 0, send(2, 2))), wait(send(5, 5)))),
                       like(1, 9, wait(beside(send(2, 0, send(2, 2)), wait(send(5, 5)))))))
        # The name on which it takes, and those of its tests, may be the turned name.
        self.leads("meet", (), beside(like(1, 0, take(0, 5, STOP)), wait(send(5, 5))),
                   one(like(1, 0, take(0, 0, beside(STOP, wait(send(5, 5))))), wait(beside(like(1, 0, take(0, 5, STOP)), send(5, 5)))))
        full = send(0, 1, send(2, 3, send(4, 5, send(6, 7, send(8, 8)))))
        self.leads("meet", (), beside(take(0, 1), full), one(take(0, 9, beside(STOP, full)), send(0, 1, beside(take(0, 1), full[3])),
                                                            like(0, 0, wait(beside(STOP, full[3])))))
        # No name is left.
        self.stays("meet", (), beside(take(0, 1, send(9, 9)), full), beside(take(0, 1), full, wait(send(9, 9))), beside(take(0, 9), full[:3] + (
            send(2, 3, send(4, 5, send(6, 7, send(8, 9)))),)))

    def test_meet_that_comes_out_too_great(self):
        twenty = one(*[wait()] * 20)
        self.leads("meet", (), beside(twenty), one(*[wait(beside(STOP))] * 20))
        self.stays("meet", (), beside(twenty, wait()), beside(one(*[send(0, 1)] * 4), one(*[take(0, 2)] * 4)))
        self.refused(TooGreat, {"most": 80}, led, main(beside(one(*[wait()] * 10), one(*[wait()] * 10))), ("meet", (1,)))
        # Three more, but not four more, fit ahead of the eight places to go.
        self.assert_same(led(main(waits(8, beside(waits(1)))), ("meet", (1,) + (1,) * 8)), main(waits(8, one(wait(beside(STOP))))))
        deep = beside(waits(10), wait())
        self.refused(TooGreat, {"most": 12}, led, main(deep), ("meet", (1,)))

    def test_within(self):
        self.leads("within", (), new(5, A), one(A))
        self.leads("within", (), new(5, STOP), STOP)
        self.leads("within", (), new(5, one(A, C)), one(A, C))
        # Put into what goes on with it; not where it is sent, not where it is bound.
        self.leads("within", (), new(5, one(wait(send(5, 5)), send(0, 1, send(5, 5)), take(0, 6, send(5, 5)))),
                   one(wait(new(5, send(5, 5))), send(0, 1, new(5, send(5, 5))), take(0, 6, new(5, send(5, 5)))))
        self.leads("within", (), new(5, one(send(0, 5, send(5, 5)), wait(send(5, 5)), take(0, 5, send(5, 5)))),
                   new(5, one(send(0, 5, send(5, 5)), wait(new(5, send(5, 5))), take(0, 5, send(5, 5)))))
        self.leads("within", (), new(5, take(0, 5, send(5, 5))), one(take(0, 5, send(5, 5))))
        self.leads("within", (), new(5, send(0, 5)), new(5, one(send(0, 5))))
        # On the name nobody can meet.
        self.leads("within", (), new(5, one(send(5, 0, C), A, take(5, 0, C), like(0, 1, send(5, 5)))), one(A))
        # Tests of the name are decided, others stay.
        self.leads("within", (), new(5, one(like(5, 0, A), like(0, 5, A), unlike(5, 0, A), unlike(0, 5, like(1, 2, unlike(5, 1, B))),
                                            like(5, 5, C), unlike(5, 5, C), like(1, 1, unlike(2, 2, A)))),
                   one(A, like(1, 2, B), C, like(1, 1, unlike(2, 2, A))))
        self.leads("within", (), new(5, unlike(5, 0, wait(send(5, 5)))), one(wait(new(5, send(5, 5)))))
        self.leads("within", (), new(5, like(1, 2, wait(send(0, 5)))), one(like(1, 2, wait(new(5, send(0, 5))))))
        self.stays("within", (), new(5, new(6, A)), new(5, beside(A)), A, new(5, beside()), one(A), take(0, 1, A))

    def test_early(self):
        before = one(take(0, 1, send(1, 1)), take(0, 1, one(wait(), like(1, 2, wait()))))
        added = take(0, 1, one(like(1, 3, send(1, 1)), unlike(1, 3, wait()), unlike(1, 3, like(1, 2, wait()))))
        self.leads("early", (0, 1, 3), before, one(*before[1], added))
        self.leads("early", (1, 0, 0), before, one(*before[1], take(0, 1, one(like(1, 0, wait()), like(1, 0, like(1, 2, wait())), unlike(1, 0, send(1, 1))))))
        self.leads("early", (0, 2, 2), one(take(0, 1), A, take(0, 1)), one(take(0, 1), A, take(0, 1), take(0, 1, one())))
        self.leads("early", (0, 0, 2), one(take(0, 1, wait())), one(take(0, 1, wait()), take(0, 1, one(like(1, 2, wait()), unlike(1, 2, wait())))))
        self.stays("early", (0, 1, 1), before)
        self.stays("early", (0, 1, 3), one(take(0, 1), take(2, 1)), one(take(0, 1), take(0, 2)), one(take(0, 1), A), one(A, take(0, 1)),
                   one(take(0, 1)), one(take(0, 1, new(5, A)), take(0, 1)), one(take(0, 1), take(0, 1, beside())),
                   one(like(0, 1, take(0, 1)), take(0, 1)), beside(take(0, 1), take(0, 1)), take(0, 1), one(A, A), one(wait(), wait()))
        self.stays("early", (2, 0, 3), before)
        self.stays("early", (0, 1, 3), one(take(0, 1), take(0, 1), *[wait()] * 18))
        eleven = one(*[wait()] * 11)
        # The one within would have 22 branches.
        self.stays("early", (0, 0, 3), one(take(0, 1, eleven)))

    def test_hush(self):
        self.leads("hush", (), send(0, 1, wait(C)), send(0, 1, C))
        self.leads("hush", (), take(0, 1, wait(send(1, 1))), take(0, 1, send(1, 1)))
        self.leads("hush", (), wait(wait(beside(A, A))), wait(beside(A, A)))
        self.stays("hush", (), A, wait(), wait(one(wait())), wait(like(0, 1, wait())), like(0, 1, wait(wait())), new(0, wait(wait())),
                   one(wait(wait())), beside(wait(wait())), STOP)
        self.assert_same(led(main(one(A, like(0, 1, wait(C)))), ("hush", (1, 1, 1, 3))), main(one(A, like(0, 1, C))))

    def test_ahead_and_reach(self):
        self.leads("ahead", (0,), one(wait(A)), one(wait(A), A))
        self.leads("ahead", (1,), one(A, wait(one(B, C)), C), one(A, wait(one(B, C)), C, B, C))
        self.leads("ahead", (0,), one(wait(STOP), A), one(wait(STOP), A))
        self.leads("ahead", (0,), one(wait(like(0, 1, A))), one(wait(like(0, 1, A)), like(0, 1, A)))
        self.stays("ahead", (0,), one(A), one(like(0, 1, wait(A))), one(wait(new(0, A))), one(wait(beside(A))), wait(A), one(), one(A, wait(B)),
                   beside(wait(A)))
        self.stays("ahead", (1,), one(wait(A)))
        self.stays("ahead", (0,), one(wait(one(wait(), wait())), *[wait()] * 18 + [wait()]))
        self.leads("reach", (0, 0), one(send(0, 1, one(wait(C), A))), one(send(0, 1, one(wait(C), A)), send(0, 1, C)))
        self.leads("reach", (1, 1), one(A, like(1, 2, unlike(0, 0, take(0, 3, one(A, wait(send(3, 3))))))),
                   one(A, like(1, 2, unlike(0, 0, take(0, 3, one(A, wait(send(3, 3)))))), like(1, 2, unlike(0, 0, take(0, 3, send(3, 3))))))
        self.leads("reach", (0, 0), one(wait(one(wait(beside(A))))), one(wait(one(wait(beside(A)))), wait(beside(A))))
        self.stays("reach", (0, 0), one(wait(wait(A))), one(wait(one(A))), one(wait(one())), one(), one(wait(one(like(0, 1, wait(A))))),
                   wait(one(wait(A))), one(A, wait(one(wait(A)))), beside(wait(one(wait()))))
        self.stays("reach", (0, 1), one(wait(one(wait(A)))))
        self.stays("reach", (1, 0), one(wait(one(wait(A)))))


class Steps(Case):

    def test_wrong_steps(self):
        program = main(one(A, A))
        wrong = values_of_every_kind() + [(word,) for word in ARGUMENTS] + [("never", (1,)), ("meet", (1,), 0), ("orders", (1,), 0), (None, (1,))]
        for word, kinds in ARGUMENTS.items():
            good = (word, (1,)) + tuple(FIRST[kind] for kind in kinds)
            wrong += [good + (0,), list(good), good[:-1] + (None,) if kinds else good + (None,), (word.upper(),) + good[1:], (word + " ",) + good[1:]]
            for place, kind in enumerate(kinds):
                odd = [None, True, False, -1, 81, 1.0, "0", (), (0,), Odd(), 10 ** 20] + ([10] if kind == "n" else []) + ([2] if kind == "s" else [])
                wrong += [good[:2 + place] + (value,) + good[3 + place:] for value in odd]
        for value in wrong:
            self.refused(BadRule, {"value": value}, led, program, value)
            self.refused(BadRule, {"value": value}, led_all, program, (value,))
            for likeness in FOUR:
                self.assertIs(is_led(program, program, ((value,), ()), likeness), False)
                self.assertIs(is_led(program, program, ((), (value,)), likeness), False)
        # Whatever the path is, a step is one; a step is looked at ahead of its path.
        self.refused(BadRule, {"value": ("once", None, 81)}, led, program, ("once", None, 81))

    def test_paths_that_lead_to_no_part_of_main(self):
        program = (((((0,)), wait(one(wait(), wait()))),), one(wait(one(A, A))))
        self.assert_same(led(program, ("once", (1, 1, 0, 1), 0)), (program[0], one(wait(one(A)))))
        paths = values_of_every_kind() + [(), (0,), (0, 0), (0, 0, 1), (0, 0, 1, 1), (1, 1), (1, 1, 0, 1, 0), (1, 1, 1), (1, 1, 0, 1, 1, 0), (1, 1, 0, 1, 1, -2),
                                          (1, 1, 0, True), (True, 1, 0, 1), [1, 1, 0, 1], (1, 1, 0, 1.0), (1, 1, -1, 1), (2,), "1101", (1, 1, 0, 2)]
        for path in paths:
            for word, kinds in ARGUMENTS.items():
                self.refused(BadStep, {"place": path}, led, program, (word, path) + tuple(FIRST[kind] for kind in kinds))
            self.assertIs(is_led(program, program, ((("once", path, 0),), ()), "late"), False)

    def test_errors_of_the_program_come_first(self):
        for asked in (led, led_all):
            self.refused(BadPiece, {"path": (1,)}, asked, main(HOLE), None)
            self.refused(BadProgram, {"place": ()}, asked, None, None)
        for value in values_of_every_kind():
            with self.assertRaises((BadProgram, BadPiece, TooGreat)):
                led(value, ("meet", (1,)))
            with self.assertRaises((BadProgram, BadPiece, TooGreat)):
                unfolding(value)
        self.refused(BadProgram, {"place": ()}, unfolding, None)
        self.refused(BadPiece, {"path": (1, 1)}, unfolding, main(wait(HOLE)))

    def test_results_that_are_too_great(self):
        program = of_parts(79)
        self.refused(TooGreat, {"most": 80}, led, program, ("split", (1, 1, 0), 0, 0, 1))
        self.refused(TooGreat, {"most": 80}, led_all, program, (("order", (1,), 0), ("split", (1, 1, 1), 0, 0, 1)))
        self.refused(TooGreat, {"most": 12}, led, main(waits(10, one(wait()))), ("split", (1,) + (1,) * 10, 0, 0, 1))
        self.assertIs(is_led(program, program, ((("split", (1, 1, 0), 0, 0, 1),), ()), "late"), False)
        # The first thing that the walk meets counts: a 21st branch, or the 81st part behind it or ahead of it.
        crowded = main(beside(one(*[wait()] * 20), one(*[wait()] * 18)))
        self.refused(BadStep, {"place": (1, 1, 0)}, led, crowded, ("split", (1, 1, 0), 0, 0, 1))
        self.refused(TooGreat, {"most": 80}, led, crowded, ("split", (1, 1, 1), 0, 0, 1))

    def test_steps_in_turn(self):
        program = main(beside(one(A, B), STOP))
        steps = (("order", (1, 1, 0), 0), ("drop", (1,), 1), ("bare", (1,)), ("order", (1,), 0), ("order", (1,), 0))
        self.assert_same(led_all(program, steps), main(one(B, A)))
        self.assert_same(led_all(program=program, steps=steps[:2]), main(beside(one(B, A))))
        self.assert_same(led_all(program, ()), program)
        self.refused(BadStep, {"place": (1,)}, led_all, program, steps[:3] + (("meet", (1,)),) + (None,))
        self.refused(BadRule, {"value": None}, led_all, program, steps[:3] + (None, ("meet", (1,))))
        hundred = (("order", (1,), 0),) * 100
        self.assert_same(led_all(program, hundred), program)
        self.refused(TooGreat, {"most": 100}, led_all, program, hundred + (None,))
        for value in values_of_every_kind():
            if not isinstance(value, tuple):
                self.refused(BadRule, {"value": value}, led_all, program, value)
        self.refused(BadRule, {"value": list(steps)}, led_all, program, list(steps))
        self.refused(BadRule, {"value": True}, led_all, program, (True,))

    def test_definitions_stay(self):
        body = ((0, 1), take(0, 2, call(0, 1, 2)))
        program = main(beside(call(0, 3, 4), STOP), body)
        self.assert_same(led(program, ("drop", (1,), 1)), main(beside(call(0, 3, 4)), body))
        self.assert_same(led(program, ("order", (1,), 0)), main(beside(STOP, call(0, 3, 4)), body))
        self.refused(BadStep, {"place": (1,)}, led, program, ("meet", (1,)))


class Led(Case):

    def test_pairs_of_rows(self):
        left, right = main(beside(A, STOP)), main(beside(STOP, beside(A)))
        paper = ((("drop", (1,), 1), ("bare", (1,))), (("flat", (1,), 1), ("drop", (1,), 0), ("bare", (1,))))
        for likeness in FOUR:
            self.assertIs(is_led(left, right, paper, likeness), True)
            self.assertIs(is_led(one=left, other=right, paper=paper, likeness=likeness), True)
            self.assertIs(is_led(right, left, paper[::-1], likeness), True)
            self.assertIs(is_led(right, left, paper, likeness), False)
            self.assertIs(is_led(left, left, ((), ()), likeness), True)
            self.assertIs(is_led(left, right, ((), ()), likeness), False)
            for value in values_of_every_kind() + [paper + ((),), paper[:1], list(paper), (list(paper[0]), paper[1]), (paper[0], list(paper[1])),
                                                   (paper[0], None), (None, paper[1]), (paper[0], Odd())]:
                self.assertIs(is_led(left, right, value, likeness), False, value)
            self.assertIs(is_led(left, right, (paper[0], paper[1] + (("bare", (1,)),)), likeness), False)
            self.assertIs(is_led(left, right, (paper[0][:1], paper[1]), likeness), False)

    def test_but_for_bound_names(self):
        self.assertIs(is_led(main(take(0, 1, send(1, 1))), main(one(take(0, 2, send(2, 2)))), ((), (("bare", (1,)),)), "late"), True)
        self.assertIs(is_led(main(take(0, 1, send(1, 1))), main(one(take(3, 2, send(2, 2)))), ((), (("bare", (1,)),)), "weak"), False)

    def test_definitions_that_differ(self):
        body, same, other = ((0,), take(0, 1)), ((2,), take(2, 1)), ((0,), take(0, 0, STOP))
        for likeness in FOUR:
            self.assertIs(is_led(main(A, body), main(A, body), ((), ()), likeness), True)
            self.assertIs(is_led(main(A, body), main(A), ((), ()), likeness), False)
            self.assertIs(is_led(main(A, body), main(A, body, body), ((), ()), likeness), False)
            self.assertIs(is_led(main(A, body), main(A, same), ((), ()), likeness), False)
            self.assertIs(is_led(main(A, body), main(A, other), ((), ()), likeness), False)

    def test_rules_that_do_not_keep_the_likeness(self):
        tails = {
            "early": (one(take(0, 1), take(0, 1, wait())), ("early", (1,), 0, 1, 2)), "hush": (wait(wait(A)), ("hush", (1,))),
            "ahead": (one(wait(A)), ("ahead", (1,), 0)), "reach": (one(wait(one(wait(A)))), ("reach", (1,), 0, 0))}
        for word, (piece, step) in tails.items():
            program = main(piece)
            after = led(program, step)
            for likeness in FOUR:
                self.assertIs(is_led(program, after, ((step,), ()), likeness), likeness in kept_by(word))
                self.assertIs(is_led(after, program, ((), (step,)), likeness), likeness in kept_by(word))
                self.assertIs(is_led(program, program, ((step,), (step,)), likeness), likeness in kept_by(word))

    def test_a_hundred_steps(self):
        program = main(one(A, B))
        hundred = (("order", (1,), 0),) * 100
        self.assertIs(is_led(program, program, (hundred, hundred), "late"), True)
        self.assertIs(is_led(program, main(one(B, A)), (hundred[:99], hundred), "late"), True)
        self.assertIs(is_led(program, program, (hundred + hundred[:2], ()), "late"), False)
        self.assertIs(is_led(program, program, ((), hundred + hundred[:2]), "late"), False)

    def test_errors(self):
        program = main(A)
        for value in values_of_every_kind() + ["open", "Early", "earl", ("late",)]:
            self.refused(BadLikeness, {"value": value}, is_led, program, program, ((), ()), value)
            self.refused(BadLikeness, {"value": value}, is_led, program, program, None, value)
        self.refused(BadPiece, {"path": (1,)}, is_led, main(HOLE), None, None, None)
        self.refused(BadProgram, {"place": ()}, is_led, program, None, None, None)


class Kept(Case):
    """Behind a step a program is alike however names are joined."""

    def test_forms_stay(self):
        chance = random.Random(45)
        met = {word: 0 for word in ARGUMENTS}
        programs = [main(random_piece(chance, 4, 0)) for _ in range(160)]
        programs += [main(one(like(0, 1, piece), unlike(0, 1, piece))) for piece in (A, C, take(0, 3, send(3, 1)), wait(one(A, B)))]
        for program in programs:
            if count_parts(program) > 16:
                continue
            forms = {}
            for path, _ in parts_of(program):
                for word in ARGUMENTS:
                    for args in arguments(word):
                        if met[word] < 12:
                            met[word] += self.keeps_forms(program, (word, path, *args), forms)
        self.assertGreater(min(met.values()), 2, met)

    def keeps_forms(self, program, step, forms):
        try:
            after = led(program, step)
        except (BadStep, TooGreat):
            return 0
        if max(free_names(after), default=0) > 3:
            return 0
        try:
            for likeness in kept_by(step[0]):
                if likeness not in forms:
                    forms[likeness] = joined_forms(program, 4, likeness)
                self.assertEqual(forms[likeness], joined_forms(after, 4, likeness), (program, step, likeness))
        except TooGreat:
            return 0
        return 1

    def test_rules_that_keep_less_do_keep_less(self):
        early = main(one(take(0, 1), take(0, 1, wait())))
        after = led(early, ("early", (1,), 0, 1, 2))
        self.assertNotEqual(joined_forms(early, 3, "late"), joined_forms(after, 3, "late"))
        for piece, step in ((wait(wait(A)), ("hush", (1,))), (one(wait(A)), ("ahead", (1,), 0)), (one(wait(one(wait(A)))), ("reach", (1,), 0, 0))):
            for likeness in ("early", "late"):
                self.assertNotEqual(joined_forms(main(piece), 2, likeness), joined_forms(led(main(piece), step), 2, likeness))


class Unfolding(Case):

    def test_steps(self):
        for piece, steps in (
                (STOP, ()), (A, ()), (new(0, take(0, 1)), ()),
                (beside(), (("meet", (1,)),)),
                (beside(STOP), (("drop", (1,), 0), ("meet", (1,)))),
                (beside(A), (("bare", (1,)),)),
                (beside(A, STOP, STOP), (("drop", (1,), 1), ("drop", (1,), 1), ("bare", (1,)))),
                (beside(STOP, new(5, A)), (("drop", (1,), 0), ("bare", (1,)))),
                (beside(wait(), STOP, new(5, wait())), (("drop", (1,), 1), ("out", (1,), 1), ("meet", (1, 2)), ("drop", (1, 2, 1, 1, 1), 1),
                                                        ("bare", (1, 2, 1, 1, 1)), ("drop", (1, 2, 1, 0, 1), 0), ("bare", (1, 2, 1, 0, 1))))):
            self.assert_same(unfolding(main(piece)), steps)
            self.assert_same(unfolding(program=main(piece)), steps)

    def test_the_last_beside_is_first(self):
        program = main(beside(wait(beside(A)), wait(beside(B, STOP)), STOP))
        self.assert_same(unfolding(program)[:4], (("drop", (1, 1, 1, 1), 1), ("bare", (1, 1, 1, 1)), ("bare", (1, 1, 0, 1)), ("drop", (1,), 2)))

    def test_news_go_out(self):
        program = main(beside(A, new(5, send(5, 5)), new(0, send(0, 0))))
        # 0 is free in the first item, and so is 1; the least name that is free in none is 2.
        steps = unfolding(program)
        self.assert_same(steps[:3], (("out", (1,), 1), ("turn", (1, 2, 1, 2), 2), ("out", (1, 2), 2)))
        self.assert_same(led_all(program, steps[:3]), main(new(5, new(2, beside(A, send(5, 5), send(2, 2))))))
        self.assertEqual(steps[3], ("meet", (1, 2, 2)))
        # The first new is looked at alone, though a later one could go out.
        program = main(beside(new(1, send(1, 1)), new(6, send(6, 6)), A))
        self.assert_same(unfolding(program)[:2], (("turn", (1, 1, 0), 2), ("out", (1,), 0)))

    def test_no_name_is_left(self):
        full = send(0, 1, send(2, 3, send(4, 5, send(6, 7, send(8, 9)))))
        self.refused(TooGreat, {"most": 10}, unfolding, main(beside(new(0, send(0, 0)), full)))
        self.refused(TooGreat, {"most": 10}, unfolding, main(beside(A, STOP, new(0, send(0, 0)), full)))
        # The last name is left.
        nine = one(send(0, 1), send(2, 3), send(4, 5), send(6, 7), send(8, 8))
        self.assert_same(unfolding(main(beside(new(0, send(0, 0)), nine)))[:2], (("turn", (1, 1, 0), 9), ("out", (1,), 0)))
        # A take for which no name is left is no step; nor is a one of too many branches.
        self.refused(BadStep, {"place": (1,)}, unfolding, main(beside(take(0, 1), full)))
        self.refused(BadStep, {"place": (1, 1)}, unfolding, main(wait(beside(one(*[wait()] * 11), one(*[wait()] * 10)))))
        self.refused(TooGreat, {"most": 80}, unfolding, main(beside(one(*[wait()] * 10), one(*[wait()] * 10))))
        self.refused(TooGreat, {"most": 12}, unfolding, main(beside(waits(10), wait())))

    def test_calls(self):
        body = ((0,), take(0, 1, call(0, 1)))
        self.refused(NotFinite, {"path": (1, 1, 1, 1)}, unfolding, main(beside(STOP, wait(call(0, 2)), call(0, 1)), body))
        self.assert_same(unfolding(main(beside(STOP, A), body)), (("drop", (1,), 0), ("bare", (1,))))

    def test_a_hundred_steps(self):
        def tree(many, leaf):
            """A tree of so many besides: each is met, and each but the first is dropped then."""
            pieces = [[] for _ in range(many)]
            for place in reversed(range(many)):
                inner = [pieces[each] for each in range(4 * place + 1, min(4 * place + 5, many))]
                pieces[place] = beside(*inner, *([leaf] if leaf and place == many - 1 else []))
            return main(pieces[0])

        self.assertEqual(len(unfolding(tree(20, None))), 39)
        self.assertEqual(len(unfolding(tree(50, None))), 99)
        self.assertEqual(len(unfolding(tree(50, STOP))), 100)
        self.refused(TooGreat, {"most": 100}, unfolding, tree(51, None))
        self.refused(TooGreat, {"most": 100}, unfolding, tree(51, STOP))
        # Behind a hundred steps it is not asked which the next one would be.
        full = send(0, 1, send(2, 3, send(4, 5, send(6, 7, send(8, 9)))))
        lacking = beside(new(0, send(0, 0)), full)
        self.refused(TooGreat, {"most": 10}, unfolding, main(beside(lacking, tree(50, None)[1])))
        self.refused(TooGreat, {"most": 100}, unfolding, main(beside(lacking, tree(50, STOP)[1])))

    def test_no_beside_is_left(self):
        counted = 0
        for program in [main(random_piece(random.Random(seed), 4, 0)) for seed in range(400)] + random_programs(9, 60):
            try:
                steps = unfolding(program)
            except (TooGreat, BadStep, NotFinite):
                continue
            after = led_all(program, steps)
            self.assertNotIn("beside", [part[0] for _, part in parts_of(after)])
            self.assertIs(is_led(program, after, (steps, ()), "late"), True)
            self.assertTrue(all(step[0] in ("drop", "bare", "out", "turn", "meet") for step in steps))
            if steps and count_parts(program) <= 14 and max(free_names(program), default=0) < 4 and counted < 60:
                try:
                    self.assertEqual(joined_forms(program, 4, "late"), joined_forms(after, 4, "late"))
                except TooGreat:
                    continue
                counted += 1
        self.assertGreater(counted, 30)
