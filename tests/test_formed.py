"""Point 43: forms of finite programs."""

import random

from passednames.conditions import all_joinings
from passednames.errors import BadGiven, BadLikeness, BadParameter, BadPiece, BadProgram, NotFinite, TooGreat
from passednames.formed import form_of, joined_forms
from passednames.joinings import alike_joined
from passednames.names import AS_IS
from passednames.programs import free_names, is_finite, renamed
from tests import formal, samples
from tests.samples import (Case, HOLE, STOP, beside, call, main, near_programs, new, one, random_programs, send, take,
                           take_families, unlike, values_of_every_kind, wait, waits)
from tests.test_joinings import FOUR, are_alike, few_names
from tests.test_likeness import JOINED, NINE, one_telling
from tests.test_silent import P, is_small

LOOP = (((0,), send(0, 0, call(0, 0))),)


def takes(channel, many, piece=STOP):
    """So many takes on a channel ahead of a piece."""
    for _ in range(many):
        piece = take(channel, 9, piece)
    return piece


def sends(a, b, many):
    """A send of b on a, and more sends behind it, so many in all."""
    piece = STOP
    for _ in range(many - 1):
        piece = send(0, 0, piece)
    return send(a, b, piece)


SIZED = [takes(0, 3), takes(1, 3), takes(2, 3), takes(3, 2), takes(4, 2), takes(0, 1, sends(0, 0, 8)), sends(0, 1, 10), sends(0, 2, 10)]
LATE = [takes(channel, 3) for channel in range(5)] + [takes(0, 2, sends(0, 0, 4))]
OF_1999, OF_2001 = main(one(*SIZED, sends(0, 3, 5))), main(one(*SIZED, sends(0, 3, 6)))
LATE_OF_2000, LATE_OF_2001 = main(one(*LATE, takes(1, 1, sends(0, 0, 3)))), main(one(*LATE, sends(1, 1, 10), sends(1, 2, 10), sends(1, 3, 2)))
OF_400 = beside(waits(4), waits(7), waits(9))


class Forms(Case):

    def gives(self, program, known, early, late, weak, rooted, given=AS_IS):
        for likeness, told in (("early", early), ("late", late), ("weak", weak), ("rooted", rooted)):
            self.assert_same(form_of(program, given, known, likeness), told)
            self.assert_same(form_of(program=program, given=given, known=known, likeness=likeness), told)

    def test_the_example(self):
        self.assert_same(form_of(main(take(0, 1, send(0, 1))), AS_IS, 1, "early"),
                         (("take", 0, 0, (("send", 0, 0, ()),)), ("take", 0, 1, (("send", 0, 1, ()),))))

    def test_small_forms(self):
        self.gives(main(STOP), 0, (), (), (), ())
        self.gives(main(wait()), 0, (("wait", ()),), (("wait", ()),), (), (("wait", ()),))
        two = (("wait", (("wait", ()),)),)
        self.gives(main(waits(2)), 0, two, two, (), (("wait", ()),))
        sent = (("send", 2, 1, ()),)
        self.gives(main(send(2, 1)), 3, sent, sent, sent, sent)
        self.gives(main(send(2, 1)), 1, (("send", 0, 0, ()),), (("send", 0, 0, ()),), (("send", 0, 0, ()),), (("send", 0, 0, ()),), JOINED)
        waiting = (("wait", sent),)
        self.gives(main(wait(send(2, 1))), 3, waiting, waiting, sent, sent + waiting)
        self.gives(main(wait(wait(send(2, 1)))), 3, (("wait", waiting),), (("wait", waiting),), sent, sent + waiting)

    def test_opened_names_are_new_names(self):
        told = (("open", 0, (("send", 1, 0, ()),)),)
        self.gives(main(new(1, send(0, 1, send(1, 0)))), 1, told, told, told, told)
        told = (("open", 0, (("send", 2, 0, ()),)),)
        self.gives(main(new(1, send(0, 1, send(1, 0)))), 2, told, told, told, told)
        told = (("open", 0, (("open", 0, (("send", 1, 2, ()),)),)),)
        self.gives(main(new(1, new(2, send(0, 1, send(0, 2, send(1, 2)))))), 1, told, told, told, told)
        self.gives(main(new(0, send(0, 1))), 2, (), (), (), ())

    def test_takes(self):
        self.assert_same(form_of(main(take(0, 1, send(0, 1))), AS_IS, 1, "late"),
                         (("take", 0, ((("send", 0, 0, ()),), (("send", 0, 1, ()),))),))
        # The world has two names more than the program knows: they come in as strangers.
        told = form_of(main(take(0, 1, send(1, 0))), AS_IS, 3, "early")
        self.assertEqual(told, tuple(("take", 0, taken, (("send", taken, 0, ()),)) for taken in range(4)))
        # A name that is forgotten keeps its place in the world, and may come in again.
        told = form_of(main(send(1, 1, take(0, 1, send(1, 1)))), AS_IS, 2, "late")
        self.assertEqual(told, (("send", 1, 1, (("take", 0, tuple((("send", taken, taken, ()),) for taken in range(3))),)),))
        told = form_of(main(take(0, 1, new(2, send(1, 2)))), AS_IS, 1, "early")
        self.assertEqual(told, (("take", 0, 0, (("open", 0, ()),)), ("take", 0, 1, (("open", 1, ()),))))

    def test_unlike_entries_ascending(self):
        told = form_of(main(one(wait(), send(1, 0), send(0, 1), send(1, 0), wait(new(5, STOP)), samples.alike(0, 1, wait()), take(0, 1))), AS_IS, 2, "early")
        self.assertEqual([entry[0] for entry in told], ["send", "send", "take", "take", "take", "wait"])
        self.assertEqual(told[:2], (("send", 0, 1, ()), ("send", 1, 0, ())))
        both = main(one(send(0, 1), send(0, 1, beside()), send(0, 1, one())))
        self.assertEqual(form_of(both, AS_IS, 2, "late"), (("send", 0, 1, ()),))

    def test_closed_up_moves(self):
        sent = ("send", 0, 1, ())
        self.gives(main(send(0, 1, wait(send(0, 1)))), 2, (("send", 0, 1, (("wait", (sent,)),)),), (("send", 0, 1, (("wait", (sent,)),)),),
                   (("send", 0, 1, (sent,)),), (("send", 0, 1, (sent,)),))
        # A wait that decides is no wait to all the others.
        choice = main(one(send(0, 1), wait()))
        self.gives(choice, 2, (sent, ("wait", ())), (sent, ("wait", ())), (sent, ("wait", ())), (sent, ("wait", ())))
        taking = main(wait(take(0, 1, wait())))
        cases = tuple(("take", 0, taken, ()) for taken in range(2))
        self.assertEqual(form_of(taking, AS_IS, 1, "weak"), cases)
        self.assertEqual(form_of(taking, AS_IS, 1, "rooted"), cases + (("wait", cases),))
        self.assertEqual(form_of(main(one(P, wait(P))), AS_IS, 3, "weak"), form_of(main(P), AS_IS, 3, "weak"))

    def test_against_the_oracle(self):
        chance = random.Random(431)
        count = 0
        for program in random_programs(432, 70, 4) + random_programs(433, 70, 3):
            given = chance.choice((AS_IS, JOINED, (2, 2, 2, 0, 4, 5, 6, 7, 8, 9)))
            known = chance.choice((4, 5))
            if not is_finite(program) or len(formal.states(program, given, known)) > 25:
                continue
            for likeness in FOUR:
                told = formal.form(program, given, known, likeness)
                if formal.size(told) <= 2000:
                    self.assertEqual(form_of(program, given, known, likeness), told, program)
                    count += 1
        self.assertGreater(count, 150)

    def test_alike_exactly_if_forms_are_equal(self):
        seen = {}
        for first, second in near_programs(434, 110, 4) + take_families(435, 20) + telling_pairs(436):
            if not is_finite(first) or not is_finite(second) or not is_small(first, second, most=20):
                continue
            known = max(free_names(first) + free_names(second), default=-1) + 1
            for likeness in FOUR:
                for many in {known, 5}:
                    try:
                        told = [form_of(program, AS_IS, many, likeness) for program in (first, second)]
                    except TooGreat:
                        continue
                    self.assertIs(are_alike(first, second, likeness), told[0] == told[1], (first, second, likeness))
                    seen.setdefault(likeness, set()).add(told[0] == told[1])
        self.assertEqual(seen, {likeness: {True, False} for likeness in FOUR})

    def test_with_given_names(self):
        chance = random.Random(437)
        for first, second in near_programs(438, 60, 3):
            given = tuple(chance.randrange(5) for _ in range(10))
            if is_finite(first) and is_finite(second) and is_small(first, second, given=given, most=20):
                for likeness in FOUR:
                    told = [form_of(program, given, 5, likeness) for program in (first, second)]
                    self.assertIs(are_alike(first, second, likeness, given), told[0] == told[1])
                    self.assertEqual(form_of(renamed(first, given), AS_IS, 5, likeness), told[0])

    def test_known_names(self):
        for known in range(6):
            for many in range(6):
                program = main(one(*[send(name, name) for name in range(many)]))
                if many <= known:
                    self.assertEqual(len(form_of(program, AS_IS, known, "late")), many)
                    self.assertEqual(len(joined_forms(main(STOP), known, "late")), len(all_joinings(known)))
                else:
                    for likeness in FOUR:
                        self.refused(BadParameter, {"value": known}, form_of, program, AS_IS, known, likeness)
                        self.refused(BadParameter, {"value": known}, joined_forms, program, known, likeness)
        # What counts are the integers that are given to free names.
        self.assertEqual(form_of(main(send(8, 9)), (0,) * 10, 1, "early"), (("send", 0, 0, ()),))
        self.assertEqual(form_of(main(take(0, 9)), (0, 5, 5, 5, 5, 5, 5, 5, 5, 5), 1, "late"), (("take", 0, ((), ())),))
        self.refused(BadParameter, {"value": 5}, form_of, main(send(1, 2)), (0, 0, 5, 0, 0, 0, 0, 0, 0, 0), 5, "late")
        self.refused(BadParameter, {"value": 5}, joined_forms, main(send(1, 5)), 5, "late")

    def test_400_and_401_standings(self):
        chain = ()
        for _ in range(20):
            chain = (("wait", chain),)
        for likeness in FOUR:
            told = form_of(main(OF_400), AS_IS, 0, likeness)
            self.assertEqual(told, {"early": chain, "late": chain, "weak": (), "rooted": (("wait", ()),)}[likeness])
            self.refused(TooGreat, {"most": 400}, form_of, main(wait(OF_400)), AS_IS, 0, likeness)
            self.refused(TooGreat, {"most": 400}, joined_forms, main(wait(OF_400)), 0, likeness)
        # Standings count once for each way in which the world calls their names.
        self.assertEqual(len(formal.states(main(take(0, 1, take(0, 1))), AS_IS, 5)), 1 + 2 + 3)
        self.assertEqual(len(formal.states(main(take(0, 1, send(1, 1))), AS_IS, 5)), 1 + 6 + 2)

    def test_sizes(self):
        for program, likeness, size in ((OF_1999, "early", 1999), (OF_2001, "early", 2001), (LATE_OF_2000, "late", 2000), (LATE_OF_2001, "late", 2001)):
            told = formal.form(program, AS_IS, 5, likeness)
            self.assertEqual(formal.size(told), size)
            if size <= 2000:
                self.assertEqual(form_of(program, AS_IS, 5, likeness), told)
            else:
                self.refused(TooGreat, {"most": 2000}, form_of, program, AS_IS, 5, likeness)
        for likeness in ("weak", "rooted"):
            self.assertEqual(formal.size(form_of(OF_1999, AS_IS, 5, likeness)), 1999)
            self.refused(TooGreat, {"most": 2000}, form_of, OF_2001, AS_IS, 5, likeness)
        waiting = main(one(*OF_1999[1][1], wait()))
        self.assertEqual([len(form_of(OF_1999, AS_IS, 5, likeness)) for likeness in ("early", "rooted")], [39, 39])
        self.refused(TooGreat, {"most": 2000}, form_of, waiting, AS_IS, 5, "early")

    def test_the_order_of_errors(self):
        nine = main(wait(NINE))
        thirteen = main(wait(beside(one(*[send(n, n) for n in range(5)]), *[news(range(5, 9)) for _ in range(2)])))
        wrong = values_of_every_kind() + ["open", "Early", ["early"], b"late", ("weak",)]
        self.refused(BadPiece, {"path": (1,)}, form_of, main(HOLE), None, None, None)
        self.refused(NotFinite, {"path": (1, 3)}, form_of, (LOOP, send(0, 1, call(0, 7))), None, None, None)
        self.refused(BadGiven, {"value": None}, form_of, main(OF_400), None, None, None)
        self.refused(BadParameter, {"value": None}, form_of, main(OF_400), AS_IS, None, None)
        self.refused(BadLikeness, {"value": None}, form_of, main(wait(OF_400)), AS_IS, 0, None)
        self.refused(TooGreat, {"most": 8}, form_of, nine, AS_IS, 0, "late")
        self.refused(TooGreat, {"most": 8}, form_of, main(NINE), AS_IS, 0, "late")
        self.refused(TooGreat, {"most": 12}, form_of, thirteen, AS_IS, 5, "late")
        self.refused(BadPiece, {"path": (1,)}, joined_forms, main(HOLE), None, None)
        self.refused(NotFinite, {"path": (1, 3)}, joined_forms, (LOOP, send(0, 1, call(0, 7))), None, None)
        self.refused(BadParameter, {"value": None}, joined_forms, main(OF_400), None, None)
        self.refused(BadLikeness, {"value": None}, joined_forms, main(wait(OF_400)), 0, None)
        self.refused(TooGreat, {"most": 8}, joined_forms, nine, 0, "late")
        self.refused(TooGreat, {"most": 12}, joined_forms, thirteen, 5, "late")
        # Standings are met ahead of the look at sizes.
        great = main(beside(one(*[takes(channel, 3) for channel in range(4)]), waits(9), waits(9), waits(9)))
        self.refused(TooGreat, {"most": 400}, form_of, great, AS_IS, 5, "early")
        for value in wrong:
            self.refused(BadLikeness, {"value": value}, form_of, main(STOP), AS_IS, 0, value)
            self.refused(BadLikeness, {"value": value}, joined_forms, main(STOP), 0, value)
        for value in values_of_every_kind() + [6, 7, 2.0]:
            if not isinstance(value, int) or isinstance(value, bool) or not 0 <= value <= 5:
                self.refused(BadParameter, {"value": value}, form_of, main(STOP), AS_IS, value, "late")
                self.refused(BadParameter, {"value": value}, joined_forms, main(STOP), value, "late")
            self.refused(BadGiven, {"value": value}, form_of, main(STOP), value, 0, "late")
            with self.assertRaises((BadProgram, BadPiece, TooGreat)):
                form_of(value, AS_IS, 0, "late")
            with self.assertRaises((BadProgram, BadPiece, TooGreat)):
                joined_forms(value, 0, "late")

    def test_definitions_that_are_not_called(self):
        self.assertEqual(form_of((LOOP, send(0, 1)), AS_IS, 2, "weak"), (("send", 0, 1, ()),))


class Joined(Case):

    def test_joined_forms(self):
        meeting = main(beside(send(0, 0), take(1, 2)))
        for likeness in FOUR:
            told = joined_forms(meeting, 2, likeness)
            self.assert_same(joined_forms(program=meeting, known=2, likeness=likeness), told)
            self.assertEqual(told, (form_of(meeting, JOINED, 2, likeness), form_of(meeting, AS_IS, 2, likeness)))
        self.assert_same(joined_forms(main(STOP), 0, "early"), ((),))
        self.assert_same(joined_forms(main(send(0, 1)), 2, "late"), ((("send", 0, 0, ()),), (("send", 0, 1, ()),)))
        three = joined_forms(main(unlike(0, 2, wait())), 3, "early")
        self.assertEqual([len(told) for told in three], [0, 1, 0, 1, 1])

    def test_each_joining_by_itself(self):
        for program in random_programs(441, 25, 3):
            if not is_finite(program):
                continue
            for known in (4, 5):
                told = [form_of(program, joining + AS_IS[known:], known, "early") for joining in all_joinings(known)]
                self.assertEqual(joined_forms(program, known, "early"), tuple(told))

    def test_alike_however_joined_exactly_if_equal(self):
        seen = set()
        for first, second, names in few_names(442, 90):
            if not is_finite(first) or not is_finite(second):
                continue
            known = max(names, default=-1) + 1
            for likeness in FOUR:
                told = joined_forms(first, known, likeness) == joined_forms(second, known, likeness)
                seen.add((likeness, told))
                self.assertIs(alike_joined(first, second, likeness), told, (first, second, likeness))
        self.assertEqual(len(seen), 8)


def news(names):
    """A piece that makes a new name for each of these and keeps all of them."""
    piece = one(*[send(name, name) for name in names])
    for name in names:
        piece = new(name, piece)
    return piece


def telling_pairs(seed):
    """Programs with other tellings of them, and with waits ahead."""
    found = []
    for program in random_programs(seed, 20, 3):
        found += [(program, (program[0], one_telling(program[1]))), (program, (program[0], wait(program[1]))),
                  ((program[0], wait(program[1])), (program[0], waits(2, program[1])))]
    return found
