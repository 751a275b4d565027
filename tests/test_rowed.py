"""Points 50 to 52: row programs, kinds, programs in which rows pass name by name."""

import random

from passednames.errors import BadKinds, BadPiece, BadProgram, TooGreat
from passednames.programs import need_program
from passednames.rowed import need_inner, need_row_program, singled
from tests import rowish, samples
from tests.rowish import passing_programs, random_row_programs, sends, takes
from tests.samples import (Case, HOLE, STOP, Odd, beside, call, main, new, of_parts, one, random_programs, send, take, unlike, values_of_every_kind,
                           wait, waits)

EXAMPLE = main(new(0, beside(sends(0, (1, 2)), takes(0, (3, 4), send(3, 4)))))
ASKING = (need_row_program, need_inner, singled)


class Need(Case):

    def good(self, piece, *definitions):
        program = main(piece, *definitions)
        self.assertIs(need_row_program(program), program)
        self.assertIs(need_row_program(value=program), program)

    def bad(self, path, piece, *definitions):
        for asked in ASKING:
            self.refused(BadPiece, {"path": path}, asked, main(piece, *definitions))

    def test_rows(self):
        for many in range(4):
            self.good(sends(0, (9, 9, 0)[:many]))
            self.good(takes(9, (9, 0, 4)[:many]))
        self.good(one(sends(0, (1,)), samples.alike(0, 1, takes(0, (1,), beside(STOP, HERE))), wait()))
        self.good(beside(unlike(1, 2, unlike(2, 3, sends(0, ()))), new(0, takes(0, ()))))
        # Kinds that can not hold are no matter of form.
        self.good(beside(sends(0, (1,)), send(0, 1), takes(0, ())))
        for program in random_programs(50, 60):
            self.assertIs(need_row_program(program), program)
        for program in random_row_programs(51, 60):
            self.assertIs(need_row_program(program), program)

    def test_wrong_rows(self):
        wrong = [("sends", 0, (1,)), ("sends", 0, (1,), STOP, STOP), ("sends", 10, (1,), STOP), ("sends", True, (1,), STOP), ("sends", 0, (0, 1, 2, 3), STOP),
                 ("sends", 0, [1], STOP), ("sends", 0, 1, STOP), ("sends", 0, None, STOP), ("sends", 0, (10,), STOP), ("sends", 0, (False,), STOP),
                 ("sends", 0, (0.0,), STOP), ("sends", -1, (), STOP), ("sends", None, (), STOP), ["sends", 0, (1,), STOP],
                 ("sends", 0, (None,), STOP), ("sends", 0, (Odd(),), STOP), ("sends", Odd(), (), STOP), ("sends", (0,), (1,), STOP)]
        wrong += [("takes",) + piece[1:] for piece in wrong if type(piece) is tuple] + [("takes", 0, (1, 1), STOP), ("takes", 0, (3, 2, 3), STOP), ("Sends", 0, (), STOP)]
        for piece in wrong + values_of_every_kind():
            self.bad((1,), piece)
            self.bad((1, 1, 1), beside(STOP, piece))
            self.bad((1, 3), sends(0, (1,), piece))
            self.bad((1, 3), takes(0, (1,), piece))
        self.good(sends(0, (1, 1, 1)))

    def test_rows_are_branches(self):
        self.good(one(sends(0, ()), takes(0, ())))
        self.good(samples.alike(0, 1, sends(0, ())))
        # What is behind them need be no branch.
        self.good(one(sends(0, (), beside(new(0, STOP), STOP)), takes(0, (), new(0, STOP))))
        self.bad((1, 1, 0, 3), one(samples.alike(0, 1, new(0, sends(0, ())))))

    def test_rows_in_definitions(self):
        self.good(STOP, ((0,), sends(0, (0,), call(0, 0))), ((0,), takes(0, (1,), one(wait(call(1, 1))))))
        self.bad((0, 0, 1), STOP, ((0,), beside(sends(0, ()))))
        self.bad((0, 0, 1, 3), STOP, ((0,), takes(0, (), beside())))
        self.bad((0, 0, 1), STOP, ((0,), call(0, 0)))
        self.bad((0, 0, 1, 2), STOP, ((0,), new(1, call(0, 0))))
        for asked in ASKING:
            self.refused(BadProgram, {"place": (0, 1)}, asked, main(STOP, ((), wait()), ((0,), sends(0, (1,)))))
            self.refused(BadProgram, {"place": (0, 0)}, asked, main(STOP, ((0,), takes(0, (1,), send(2, 1)))))
            self.refused(BadProgram, {"place": (0, 0)}, asked, main(STOP, ((), takes(0, ()))))
        self.good(STOP, ((0,), takes(0, (1, 2), send(2, 1))))

    def test_depth_and_number(self):
        deep = STOP
        for _ in range(11):
            deep = sends(0, (), deep)
        self.good(deep)
        rows = takes(0, (), deep)
        for asked in ASKING:
            self.refused(TooGreat, {"most": 12}, asked, main(rows))
            self.refused(TooGreat, {"most": 80}, asked, main(of_parts(80)[1], ((), STOP)))
        self.assert_same(need_row_program(of_parts(80)), of_parts(80))

    def test_what_is_no_program(self):
        for value in values_of_every_kind():
            for asked in ASKING:
                with self.assertRaises((BadProgram, BadPiece, TooGreat)):
                    asked(value)
        for asked in ASKING:
            self.refused(BadProgram, {"place": ()}, asked, None)
            self.refused(BadProgram, {"place": (0,)}, asked, ([], None))
            self.refused(BadProgram, {"place": (0, 1)}, asked, ((((), None), None), None))
            self.refused(BadPiece, {"path": (1,)}, asked, main(HOLE))

    def test_rows_stand_in_no_other_program(self):
        for piece in (sends(0, ()), takes(0, ()), wait(sends(0, (1,))), one(takes(0, (1,)))):
            path = (1,) if piece[0] in ("sends", "takes") else (1, 1) if piece[0] == "wait" else (1, 1, 0)
            self.refused(BadPiece, {"path": path}, need_program, main(piece))


HERE = new(3, takes(3, (4, 5, 6), sends(4, (5, 6))))


class Inner(Case):

    def good(self, piece, *definitions):
        program = main(piece, *definitions)
        self.assertIs(need_inner(program), program)
        self.assertIs(need_inner(program=program), program)
        self.assertIs(rowish.first_unfit(program), None)

    def bad(self, path, piece, *definitions):
        program = main(piece, *definitions)
        self.refused(BadKinds, {"place": path}, need_inner, program)
        self.refused(BadKinds, {"place": path}, singled, program)
        self.assertEqual(rowish.first_unfit(program), path)

    def test_names_that_are_free_carry_no_rows(self):
        self.good(send(0, 1, take(1, 2, send(2, 2))))
        self.good(new(5, sends(5, (0, 1))))
        self.bad((1,), sends(0, (1,)))
        self.bad((1,), takes(0, ()))
        self.bad((1, 1), wait(sends(0, ())))
        # What is sent to the outside, or comes from there, is a single one.
        self.bad((1, 2, 3), new(5, send(0, 5, sends(5, ()))))
        self.bad((1, 2, 3), new(5, sends(5, (), send(0, 5))))
        self.bad((1, 3), take(0, 1, takes(1, (2,))))
        self.good(new(5, send(0, 5, send(5, 5))))
        self.good(new(5, send(0, 5, new(6, send(5, 6)))))
        self.bad((1, 2, 3, 2, 3), new(5, send(0, 5, new(6, send(5, 6, sends(6, ()))))))

    def test_lengths(self):
        for many in range(4):
            for other in range(4):
                piece = new(5, beside(sends(5, (0,) * many), takes(5, (1, 2, 3)[:other])))
                if many == other:
                    self.good(piece)
                else:
                    self.bad((1, 2, 1, 1), piece)
        self.bad((1, 2, 1, 1), new(5, beside(sends(5, (0,)), send(5, 0))))
        self.bad((1, 2, 1, 1), new(5, beside(take(5, 0), takes(5, (0,)))))

    def test_names_that_come_by_rows(self):
        self.good(new(5, new(6, beside(sends(5, (6, 0), sends(6, (1,))), takes(5, (1, 2), takes(1, (3,), send(2, 3)))))))
        self.bad((1, 2, 2, 1, 1, 3), new(5, new(6, beside(sends(5, (6, 0), sends(6, (1,))), takes(5, (1, 2), takes(2, ()))))))
        self.bad((1, 2, 2, 1, 1, 3), new(5, new(6, beside(sends(5, (6, 0), sends(6, (1,))), takes(5, (1, 2), takes(1, (3, 4)))))))
        # A row that carries itself.
        self.good(new(5, sends(5, (5,), takes(5, (6,), sends(6, (6,))))))
        self.bad((1, 2, 3, 3), new(5, sends(5, (5,), takes(5, (6,), sends(6, (0,))))))
        self.good(new(5, new(6, sends(5, (6,), sends(6, (5,), takes(5, (7,), takes(7, (8,), sends(8, (7,)))))))))

    def test_tests(self):
        self.bad((1, 2, 3), new(5, sends(5, (), samples.alike(0, 5, wait()))))
        self.bad((1, 2, 3, 3), new(5, sends(5, (), samples.alike(5, 5, unlike(0, 5, wait())))))
        self.good(new(5, new(6, samples.alike(5, 6, sends(5, (0,), sends(6, (1,)))))))
        self.bad((1, 2, 2, 3, 3), new(5, new(6, unlike(5, 6, sends(5, (0,), sends(6, (1, 1)))))))
        self.bad((1, 2, 3), new(5, samples.alike(5, 0, sends(5, ()))))

    def test_kinds_that_are_one_carry_the_same(self):
        # By a test of the names that carry, the names that they carry are of one kind, too.
        def both(test):
            return new(5, new(6, new(7, new(8, sends(5, (7,), sends(6, (8,), sends(7, (0,), test)))))))
        self.good(both(samples.alike(5, 6, sends(8, (1,)))))
        self.bad((1,) + (2,) * 4 + (3,) * 4, both(samples.alike(5, 6, sends(8, (1, 1)))))
        self.bad((1,) + (2,) * 4 + (3,) * 4, both(samples.alike(5, 6, take(8, 1))))
        self.bad((1,) + (2,) * 4 + (3,) * 4, both(sends(8, (1, 1), samples.alike(5, 6, wait()))))
        self.good(both(sends(8, (1, 1), samples.alike(7, 7, wait()))))

    def test_definitions(self):
        body = ((0, 1), sends(0, (1, 1), call(0, 0, 1)))
        self.good(new(5, call(0, 5, 0)), body)
        self.bad((1,), call(0, 0, 1), body)
        self.bad((1, 2), new(5, call(0, 0, 5)), body)
        self.bad((1, 2, 1, 1), new(5, beside(call(0, 5, 0), takes(5, (1,)))), body)
        self.good(STOP, ((0, 1), sends(0, (1, 1), call(0, 1, 0))))
        self.bad((0, 0, 1, 3), STOP, ((0, 1), sends(0, (1, 1), send(0, 1))))
        # Definitions that nothing calls count, too; each of PARAMS has one kind, whoever calls.
        one_row, two_rows = ((0,), sends(0, (0,))), ((3,), takes(3, (1, 2)))
        self.good(new(5, call(0, 5)), one_row, two_rows)
        self.bad((1, 2, 2, 1, 1), new(5, new(6, beside(call(0, 5), call(1, 5)))), one_row, two_rows)
        self.good(new(5, new(6, beside(call(0, 5), call(1, 6)))), one_row, two_rows)
        self.bad((1, 2, 2, 3, 1, 1), new(5, new(6, sends(6, (), beside(call(0, 5), call(0, 6))))), one_row)
        self.bad((1, 2, 2, 1, 2), new(5, new(6, beside(call(0, 5), call(1, 6), sends(5, (6,))))), one_row, two_rows)

    def test_order_of_the_walk(self):
        wrong = beside(sends(0, ()), takes(0, ()))
        self.bad((0, 1, 1, 3), wrong, ((0,), send(0, 0)), ((0,), send(0, 0, sends(0, ()))))
        self.bad((1, 1, 0), wrong, ((0,), send(0, 0)))
        # The piece with which it can not hold, not the one that told it first.
        self.bad((1, 2, 1, 2), new(5, beside(wait(sends(5, (0,))), STOP, send(5, 0), sends(5, ()))))

    def test_with_a_second_telling(self):
        chance = random.Random(52)
        counted = {True: 0, False: 0}
        programs = random_row_programs(53, 120) + passing_programs(54, 60)
        bent = [bend(chance, program) for program in programs for _ in range(2)]
        for program in programs + bent + random_programs(55, 40):
            try:
                need_row_program(program)
            except (BadPiece, BadProgram, TooGreat):
                continue
            path = rowish.first_unfit(program)
            counted[path is None] += 1
            if path is None:
                self.assertIs(need_inner(program), program)
            else:
                self.refused(BadKinds, {"place": path}, need_inner, program)
        self.assertGreater(min(counted.values()), 60, counted)


def bend(chance, program):
    """The program with one row, name or word changed."""
    places = [place for place in walk(program[1]) if place[1][0] in ("sends", "takes", "send", "take", "alike")]
    if not places:
        return program
    path, piece = chance.choice(places)
    kind = chance.randrange(3)
    if kind == 0:
        piece = (piece[0], chance.randrange(6)) + piece[2:]
    elif piece[0] in ("sends", "takes"):
        piece = piece[:2] + (piece[2][1:] if kind == 1 else piece[2] + (9,) * (len(piece[2]) < 3),) + piece[3:]
    else:
        piece = piece[:2] + (chance.randrange(6),) + piece[3:]
    return (program[0], put(program[1], path, piece))


def walk(piece, path=()):
    """All pairs (path, part) of a piece."""
    found = [(path, piece)]
    if piece[0] in ("one", "beside"):
        for place, part in enumerate(piece[1]):
            found += walk(part, path + (1, place))
    elif piece[0] != "call":
        found += walk(piece[-1], path + (len(piece) - 1,))
    return found


def put(whole, path, part):
    """The whole with a part at a path."""
    if not path:
        return part
    return whole[:path[0]] + (put(whole[path[0]], path[1:], part),) + whole[path[0] + 1:]


class Singled(Case):

    def becomes(self, before, after):
        self.assert_same(singled(main(new(5, before))), main(new(5, after)))
        self.assert_same(singled(program=main(new(5, before))), main(new(5, after)))

    def test_the_example(self):
        self.assert_same(singled(EXAMPLE), main(new(0, beside(new(3, send(0, 3, send(3, 1, send(3, 2)))), take(0, 0, take(0, 3, take(0, 4, send(3, 4))))))))

    def test_programs_without_rows_stay(self):
        for program in random_programs(56, 80):
            self.assert_same(singled(program), program)

    def test_rows_of_each_length(self):
        self.becomes(sends(5, ()), new(0, send(5, 0)))
        self.becomes(sends(5, (0,)), new(1, send(5, 1, send(1, 0))))
        self.becomes(sends(5, (1, 1, 0)), new(2, send(5, 2, send(2, 1, send(2, 1, send(2, 0))))))
        self.becomes(takes(5, ()), take(5, 0))
        self.becomes(takes(5, (0,)), take(5, 1, take(1, 0)))
        self.becomes(takes(5, (1, 0, 2)), take(5, 3, take(3, 1, take(3, 0, take(3, 2)))))
        # The name on which it takes can be the one that is bound.
        self.becomes(takes(5, (6,), send(6, 0)), take(5, 1, take(1, 6, send(6, 0))))
        self.becomes(takes(5, (5,), send(0, 1)), take(5, 2, take(2, 5, send(0, 1))))

    def test_what_goes_on(self):
        self.becomes(sends(5, (0,), sends(5, (1,))), new(2, send(5, 2, send(2, 0, new(0, send(5, 0, send(0, 1)))))))
        self.becomes(takes(5, (0,), takes(5, (1,), send(0, 1))), take(5, 1, take(1, 0, take(5, 2, take(2, 1, send(0, 1))))))
        self.becomes(wait(new(6, beside(sends(6, ()), STOP))), wait(new(6, beside(new(0, send(6, 0)), STOP))))

    def test_choices(self):
        # One name for each branch that sends a row, in turn, around the whole.
        self.becomes(one(sends(5, (0,)), wait(), takes(5, (1,)), samples.alike(5, 5, sends(5, (2,), send(3, 3)))),
                     new(1, new(4, one(send(5, 1, send(1, 0)), wait(), take(5, 0, take(0, 1)), samples.alike(5, 5, send(5, 4, send(4, 2, send(3, 3))))))))
        self.becomes(one(sends(5, ())), new(0, one(send(5, 0))))
        self.becomes(one(takes(5, ())), one(take(5, 0)))
        # Tests around a branch that stands in no one: the news are around the tests.
        self.becomes(unlike(0, 1, samples.alike(5, 5, sends(5, ()))), new(2, unlike(0, 1, samples.alike(5, 5, send(5, 2)))))
        self.becomes(one(), one())
        # Behind a branch new choices begin.
        self.becomes(one(wait(one(sends(5, ()))), sends(5, (), sends(5, ()))),
                     new(0, one(wait(new(0, one(send(5, 0)))), send(5, 0, new(0, send(5, 0))))))

    def test_definitions(self):
        program = main(new(5, call(0, 5, 0)), ((0, 1), sends(0, (1,), wait(call(0, 0, 1)))), ((), wait()))
        self.assert_same(singled(program), main(new(5, call(0, 5, 0)), ((0, 1), new(2, send(0, 2, send(2, 1, wait(call(0, 0, 1)))))), ((), wait())))
        program = main(STOP, ((0,), takes(0, (1,), call(0, 0))))
        self.assert_same(singled(program), main(STOP, ((0,), take(0, 2, take(2, 1, call(0, 0))))))

    def test_names_are_lacking(self):
        nine = send(0, 1, send(2, 3, send(4, 6, send(7, 8))))
        ten = send(0, 1, send(2, 3, send(4, 6, send(7, 8, send(9, 9)))))
        self.becomes(sends(5, (), nine), new(9, send(5, 9, nine)))
        self.refused(TooGreat, {"most": 10}, singled, main(new(5, sends(5, (), ten))))
        self.refused(TooGreat, {"most": 10}, singled, main(new(5, sends(5, (9,), nine))))
        self.refused(TooGreat, {"most": 10}, singled, main(new(5, one(sends(5, (), nine), sends(5, ())))))
        self.becomes(takes(5, (9,), nine), take(5, 5, take(5, 9, nine)))
        self.refused(TooGreat, {"most": 10}, singled, main(new(5, takes(5, (9, 5), nine))))
        self.refused(TooGreat, {"most": 10}, singled, main(new(5, wait(takes(5, (9, 5), nine)))))

    def test_results_that_are_too_great(self):
        self.becomes(waits(7, sends(5, ())), waits(7, new(0, send(5, 0))))
        deep = main(new(5, waits(9, sends(5, ()))))
        self.assertIs(need_inner(deep), deep)
        self.refused(TooGreat, {"most": 12}, singled, deep)
        self.becomes(waits(6, takes(5, (1, 2, 3))), waits(6, take(5, 0, take(0, 1, take(0, 2, take(0, 3))))))
        self.refused(TooGreat, {"most": 12}, singled, main(new(5, waits(7, takes(5, (1, 2, 3))))))
        many = main(new(5, one(*[sends(5, (0, 0))] * 9 + [wait()] * 10)))
        self.assertIs(need_inner(many), many)
        many = main(new(5, beside(*[one(*[takes(5, (0, 1, 2))] * 8)] * 4)))
        self.assertIs(need_inner(many), many)
        self.refused(TooGreat, {"most": 80}, singled, many)
        # A lacking name is told ahead of what is too great.
        self.refused(TooGreat, {"most": 10}, singled, main(new(5, waits(5, sends(5, (9,), send(0, 1, send(2, 3, send(4, 6, send(7, 8)))))))))

    def test_with_a_second_telling(self):
        counted = 0
        for program in random_row_programs(57, 150) + passing_programs(58, 80):
            try:
                told = singled(program)
            except TooGreat as raised:
                self.assertIn(raised.most, (10, 12, 80))
                continue
            self.assert_same(told, (tuple((params, rowish.told_singled(body)) for params, body in program[0]), rowish.told_singled(program[1])))
            self.assertIs(need_program(told), told)
            counted += 1
        self.assertGreater(counted, 120)
