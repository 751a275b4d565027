"""Points 4 and 11: paths, the order of the walk, parts, free names, measures, finite programs."""

from passednames.errors import BadIndex, BadPiece, BadProgram, NotFinite, TooGreat
from passednames.programs import (free_names, is_finite, measures, need_finite, need_program, part_at, parts_of,
                                  put_at)
from tests.samples import (Case, STOP, Odd, alike, beside, call, main, new, of_parts, one, random_programs, send, take,
                           unlike, values_of_every_kind, wait, waits)

WIDE = main(
    beside(send(0, 1, wait()), one(take(2, 3), alike(4, 5, unlike(6, 7, wait(new(8, call(1, 9, 8))))))),
    ((0,), one(wait(call(0, 0)), send(0, 0))),
    ((3, 4), new(5, take(5, 6, send(3, 4)))),
)
WIDE_PARTS = [
    ((0, 0, 1), one(wait(call(0, 0)), send(0, 0))),
    ((0, 0, 1, 1, 0), wait(call(0, 0))),
    ((0, 0, 1, 1, 0, 1), call(0, 0)),
    ((0, 0, 1, 1, 1), send(0, 0)),
    ((0, 0, 1, 1, 1, 3), STOP),
    ((0, 1, 1), new(5, take(5, 6, send(3, 4)))),
    ((0, 1, 1, 2), take(5, 6, send(3, 4))),
    ((0, 1, 1, 2, 3), send(3, 4)),
    ((0, 1, 1, 2, 3, 3), STOP),
    ((1,), WIDE[1]),
    ((1, 1, 0), send(0, 1, wait())),
    ((1, 1, 0, 3), wait()),
    ((1, 1, 0, 3, 1), STOP),
    ((1, 1, 1), one(take(2, 3), alike(4, 5, unlike(6, 7, wait(new(8, call(1, 9, 8))))))),
    ((1, 1, 1, 1, 0), take(2, 3)),
    ((1, 1, 1, 1, 0, 3), STOP),
    ((1, 1, 1, 1, 1), alike(4, 5, unlike(6, 7, wait(new(8, call(1, 9, 8)))))),
    ((1, 1, 1, 1, 1, 3), unlike(6, 7, wait(new(8, call(1, 9, 8))))),
    ((1, 1, 1, 1, 1, 3, 3), wait(new(8, call(1, 9, 8)))),
    ((1, 1, 1, 1, 1, 3, 3, 1), new(8, call(1, 9, 8))),
    ((1, 1, 1, 1, 1, 3, 3, 1, 2), call(1, 9, 8)),
]


def at_path(program, path):
    """What the indexes of a path lead to."""
    for place in path:
        program = program[place]
    return program


class Parts(Case):

    def test_all_in_the_order_of_the_walk(self):
        self.assert_same(parts_of(WIDE), WIDE_PARTS)

    def test_small_ones(self):
        self.assert_same(parts_of(main(STOP)), [((1,), STOP)])
        self.assert_same(parts_of(main(beside())), [((1,), ("beside", ()))])
        self.assert_same(parts_of(main(STOP, ((), STOP))), [((0, 0, 1), STOP), ((1,), STOP)])

    def test_equal_parts_at_several_places(self):
        self.assertEqual([path for path, _ in parts_of(main(beside(wait(), wait())))],
                         [(1,), (1, 1, 0), (1, 1, 0, 1), (1, 1, 1), (1, 1, 1, 1)])

    def test_paths_lead_to_parts(self):
        for program in random_programs(2, 40):
            parts = parts_of(program)
            self.assertEqual(len(parts), len({path for path, _ in parts}))
            for path, part in parts:
                self.assertEqual(at_path(program, path), part)
                self.assertEqual(part_at(program, path), part)

    def test_a_changed_list_changes_nothing(self):
        parts = parts_of(WIDE)
        parts[0] = None
        parts.append(3)
        del parts[1:4]
        self.assert_same(parts_of(WIDE), WIDE_PARTS)
        self.assertIsNot(parts_of(WIDE), parts_of(WIDE))
        self.assertEqual(part_at(WIDE, (0, 0, 1)), WIDE_PARTS[0][1])

    def test_part_at(self):
        for path, part in WIDE_PARTS:
            self.assert_same(part_at(WIDE, path), part)
        self.assert_same(part_at(program=WIDE, path=(1, 1, 0)), send(0, 1, wait()))

    def test_no_such_path(self):
        wrong = [
            (), (0,), (2,), (0, 0), (0, 0, 0), (0, 2, 1), (1, 0), (1, 1), (1, 1, 2), (1, 1, 0, 0), (1, 1, 0, 1),
            (1, 1, 0, 3, 1, 0), (1, 1, 0, 3, 1, 1), (1, 1, -1), (-1,), (1, 1, 1, 1), (1, 1, 1, 1, 2), [1], [1, 1, 0],
            (True,), (1, True, 0), (1, 1, False), (1, 1, True), (1.0,), (1, 1, 0.0), "1", (None,), ((1,),), (1, 10 ** 30),
            (1, 1, 1, 1, 1, 3, 3, 1, 2, 2), (Odd(),), (1, []), ("1",), b"\x01", 1, (0, False, 1), (0, 1, True),
        ]
        for path in wrong + values_of_every_kind():
            self.refused(BadIndex, {"value": path}, part_at, WIDE, path)
            self.refused(BadIndex, {"value": path}, put_at, WIDE, path, STOP)
            self.refused(BadIndex, {"value": path}, put_at, WIDE, path, None)


class Put(Case):

    def test_each_part_can_be_put_again(self):
        for path, part in WIDE_PARTS:
            self.assert_same(put_at(WIDE, path, part), WIDE)

    def test_put(self):
        program = main(beside(send(0, 1, STOP), one(wait(), take(3, 4, new(5, STOP)))), ((6,), wait(one(send(6, 6)))))
        for path, part, wanted in (
            ((1,), STOP, main(STOP, program[0][0])),
            ((1, 1, 0), beside(), main(beside(beside(), program[1][1][1]), program[0][0])),
            ((1, 1, 0, 3), wait(), main(beside(send(0, 1, wait()), program[1][1][1]), program[0][0])),
            ((1, 1, 1, 1, 0), alike(7, 8, wait()),
             main(beside(send(0, 1), one(alike(7, 8, wait()), take(3, 4, new(5, STOP)))), program[0][0])),
            ((1, 1, 1, 1, 1, 3, 2), call(0, 9),
             main(beside(send(0, 1), one(wait(), take(3, 4, new(5, call(0, 9))))), program[0][0])),
            ((0, 0, 1), STOP, main(program[1], ((6,), STOP))),
            ((0, 0, 1, 1, 1, 0), take(6, 7, send(7, 6)), main(program[1], ((6,), wait(one(take(6, 7, send(7, 6))))))),
        ):
            self.assert_same(put_at(program, path, part), wanted)
        self.assert_same(put_at(program=main(STOP), path=(1,), part=beside()), main(beside()))

    def test_the_result_is_checked(self):
        program = main(one(wait()), ((0,), wait()))
        for value in values_of_every_kind():
            self.refused(BadPiece, {"path": (1, 1, 0)}, put_at, program, (1, 1, 0), value)
            self.refused(BadPiece, {"path": (0, 0, 1)}, put_at, program, (0, 0, 1), value)
        self.refused(BadPiece, {"path": (1, 1, 0)}, put_at, program, (1, 1, 0), STOP)
        self.refused(BadPiece, {"path": (0, 0, 1)}, put_at, program, (0, 0, 1), beside())
        self.refused(BadPiece, {"path": (0, 0, 1)}, put_at, program, (0, 0, 1), call(0, 0))
        self.refused(BadProgram, {"place": (0, 0)}, put_at, program, (0, 0, 1), send(0, 1))
        self.refused(TooGreat, {"most": 12}, put_at, program, (1, 1, 0, 1), waits(10))
        self.refused(TooGreat, {"most": 80}, put_at, program, (1,), of_parts(79)[1])
        self.assertEqual(measures(put_at(program, (1,), of_parts(78)[1]))[0], 80)

    def test_the_program_ahead_of_the_path_ahead_of_the_part(self):
        self.refused(BadPiece, {"path": (1,)}, put_at, main(None), None, None)
        self.refused(BadPiece, {"path": (1,)}, put_at, main(None), (1,), STOP)
        self.refused(BadIndex, {"value": (1, 1)}, put_at, main(STOP), (1, 1), None)


class FreeNames(Case):

    def test_each_word(self):
        for piece, names in (
            (STOP, ()), (beside(), ()), (send(3, 1), (1, 3)), (send(4, 4), (4,)), (take(5, 2), (5,)),
            (take(5, 5, send(5, 6)), (5, 6)), (take(1, 2, send(2, 3)), (1, 3)), (take(1, 2, take(2, 1, send(2, 1))), (1,)),
            (wait(send(9, 0)), (0, 9)), (alike(7, 2, wait()), (2, 7)), (unlike(0, 0, send(3, 3)), (0, 3)),
            (one(send(1, 2), take(2, 3, send(3, 4))), (1, 2, 4)), (beside(send(9, 8), wait(send(1, 1))), (1, 8, 9)),
            (new(3, send(3, 1)), (1,)), (new(3, STOP), ()), (new(1, take(1, 2, send(2, 3))), (3,)),
            (beside(new(1, send(1, 1)), send(1, 2)), (1, 2)), (take(0, 1, new(0, send(0, 1))), (0,)),
            (new(0, take(0, 1, send(0, 1))), ()), (wait(new(5, alike(5, 6, take(5, 6, send(6, 7))))), (6, 7)),
        ):
            self.assert_same(free_names(main(piece)), names)

    def test_calls_and_definitions(self):
        definition = ((0, 1), send(0, 1))
        self.assert_same(free_names(main(call(0, 7, 3), definition)), (3, 7))
        self.assert_same(free_names(main(new(7, call(0, 7, 3)), definition)), (3,))
        self.assert_same(free_names(main(STOP, definition)), ())

    def test_all_ten(self):
        self.assert_same(free_names(main(beside(send(9, 8, send(7, 6)), send(5, 4), send(3, 2), send(1, 0)))),
                         (0, 1, 2, 3, 4, 5, 6, 7, 8, 9))


class Measures(Case):

    def test_measures(self):
        for program, wanted in (
            (main(STOP), (1, 1)), (main(beside()), (1, 1)), (main(beside(STOP, STOP)), (3, 2)), (WIDE, (21, 7)),
            (main(STOP, ((), waits(3))), (5, 4)), (main(waits(2), ((), wait()), ((), STOP)), (6, 3)),
            (main(one(wait(), alike(0, 1, wait()))), (6, 4)), (main(new(1, take(1, 2, send(2, 1)))), (4, 4)),
            (main(call(0), ((), STOP)), (2, 1)), (main(waits(11)), (12, 12)),
        ):
            self.assert_same(measures(program), wanted)

    def test_as_many_as_parts_of(self):
        for program in random_programs(3, 30):
            self.assertEqual(measures(program)[0], len(parts_of(program)))


class Finite(Case):

    def test_without_a_call(self):
        for program in (main(STOP), main(beside(wait(), new(0, one(send(1, 2))))), main(STOP, ((), wait(call(0))))):
            self.assertIs(is_finite(program), True)
            self.assertEqual(need_finite(program), program)

    def test_with_a_call(self):
        definition = ((), STOP)
        for program, path in (
            (main(call(0), definition), (1,)),
            (main(wait(call(0)), ((), wait(call(0)))), (1, 1)),
            (main(beside(STOP, new(1, call(0)), call(0)), definition), (1, 1, 1, 2)),
            (main(one(wait(), send(0, 1, call(0)), take(0, 1, call(0))), definition), (1, 1, 1, 3)),
            (main(alike(0, 1, unlike(2, 3, wait(call(0)))), definition), (1, 3, 3, 1)),
            (main(beside(wait(call(0)), call(0)), definition), (1, 1, 0, 1)),
        ):
            self.assertIs(is_finite(program), False)
            self.refused(NotFinite, {"path": path}, need_finite, program)

    def test_results_are_programs(self):
        self.assertEqual(need_program(need_finite(main(STOP))), main(STOP))
        self.assertEqual(need_finite(program=main(unlike(1, 2, wait()))), main(unlike(1, 2, wait())))
        self.assertEqual(main(take(0, 1)), need_finite(main(take(0, 1))))
