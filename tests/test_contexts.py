"""Point 13: surroundings, programs put into them and side by side."""

from passednames.contexts import beside_of, hole_at, names_over, need_surrounding, surrounded
from passednames.errors import BadPiece, BadProgram, BadSurrounding, TooGreat
from passednames.programs import measures, need_program, parts_of
from tests.samples import (Case, HOLE, STOP, alike, beside, call, main, new, of_parts, one, random_programs, send, take,
                           unlike, values_of_every_kind, wait, waits)

GOOD = [
    (main(HOLE), (1,), ()),
    (main(wait(HOLE)), (1, 1), ()),
    (main(new(1, HOLE)), (1, 2), (1,)),
    (main(take(3, 4, HOLE)), (1, 3), (4,)),
    (main(send(3, 4, HOLE)), (1, 3), ()),
    (main(beside(STOP, HOLE, STOP)), (1, 1, 1), ()),
    (main(beside(STOP, take(0, 1, send(1, 2)), HOLE)), (1, 1, 2), ()),
    (main(one(wait(), alike(0, 1, unlike(2, 3, take(4, 5, new(6, HOLE)))))), (1, 1, 1, 3, 3, 3, 2), (5, 6)),
    (main(new(7, take(0, 3, new(7, beside(new(8, STOP), HOLE))))), (1, 2, 3, 2, 1, 1), (3, 7)),
    (main(take(0, 0, take(0, 0, HOLE))), (1, 3, 3), (0,)),
    (main(new(9, new(0, new(5, HOLE)))), (1, 2, 2, 2), (0, 5, 9)),
    (main(beside(call(0, 3), wait(HOLE)), ((2,), new(1, wait(call(0, 2))))), (1, 1, 1, 1), ()),
]


class Surroundings(Case):

    def test_good_ones(self):
        for surrounding, path, names in GOOD:
            self.assertEqual(need_surrounding(surrounding), surrounding)
            self.assert_same(hole_at(surrounding), path)
            self.assert_same(names_over(surrounding), names)
        self.assertEqual(need_surrounding(value=main(HOLE)), main(HOLE))
        self.assertEqual(hole_at(surrounding=main(HOLE)), (1,))
        self.assertEqual(names_over(surrounding=main(HOLE)), ())

    def test_errors_of_programs(self):
        for value, error, told in (
            (None, BadProgram, {"place": ()}), ((HOLE,), BadProgram, {"place": ()}), (([], HOLE), BadProgram, {"place": (0,)}),
            (main(HOLE, None), BadProgram, {"place": (0, 0)}), (main(beside(HOLE, None)), BadPiece, {"path": (1, 1, 1)}),
            (main(HOLE, ((), send(0, 0))), BadProgram, {"place": (0, 0)}), (main(waits(12, HOLE)), TooGreat, {"most": 12}),
            (main(beside(of_parts(79)[1], HOLE)), TooGreat, {"most": 80}), (main(HOLE, ((), None)), BadPiece, {"path": (0, 0, 1)}),
            (main(beside(*[HOLE] * 5)), BadPiece, {"path": (1,)}),
        ):
            for asked in (need_surrounding, hole_at, names_over):
                self.refused(error, told, asked, value)
            self.refused(error, told, surrounded, value, None)

    def test_values_of_every_kind(self):
        for value in values_of_every_kind():
            if not (isinstance(value, tuple) and len(value) == 2):
                self.refused(BadProgram, {"place": ()}, need_surrounding, value)
            if not (isinstance(value, tuple) and len(value) == 1 and isinstance(value[0], str) and value[0] == "hole"):
                self.refused(BadPiece, {"path": (1,)}, need_surrounding, main(value))
                self.refused(BadPiece, {"path": (1, 1, 1)}, need_surrounding, main(beside(HOLE, value)))

    def test_no_other_form_of_hole(self):
        for value in (("hole", ()), ("hole", STOP), ["hole"], "hole", ("Hole",), (("hole",),), ()):
            self.refused(BadPiece, {"path": (1,)}, need_surrounding, main(value))

    def test_no_hole_in_a_body(self):
        self.refused(BadPiece, {"path": (0, 0, 1)}, need_surrounding, main(HOLE, ((), HOLE)))
        self.refused(BadPiece, {"path": (0, 0, 1, 1)}, need_surrounding, main(STOP, ((), wait(HOLE))))

    def test_no_hole_where_a_branch_is_due(self):
        self.refused(BadPiece, {"path": (1, 3)}, need_surrounding, main(alike(0, 1, HOLE)))
        self.refused(BadPiece, {"path": (1, 3)}, need_surrounding, main(unlike(0, 1, HOLE)))
        self.refused(BadPiece, {"path": (1, 1, 0)}, need_surrounding, main(one(HOLE)))
        self.refused(BadPiece, {"path": (1, 1, 0, 1, 1, 1)}, need_surrounding, main(beside(wait(one(wait(HOLE), HOLE)))))

    def test_no_hole_at_all(self):
        for program in (main(STOP), main(beside()), main(wait(new(1, STOP)), ((), STOP))):
            for asked in (need_surrounding, hole_at, names_over):
                self.refused(BadSurrounding, {"path": ()}, asked, program)
            self.refused(BadSurrounding, {"path": ()}, surrounded, program, None)

    def test_the_second_hole(self):
        for program, path in (
            (main(beside(HOLE, HOLE)), (1, 1, 1)), (main(beside(HOLE, STOP, wait(HOLE), HOLE)), (1, 1, 2, 1)),
            (main(beside(one(wait(HOLE)), send(0, 1, HOLE))), (1, 1, 1, 3)),
            (main(one(wait(HOLE), wait(beside(HOLE, HOLE)))), (1, 1, 1, 1, 1, 0)),
        ):
            for asked in (need_surrounding, hole_at, names_over):
                self.refused(BadSurrounding, {"path": path}, asked, program)
            self.refused(BadSurrounding, {"path": path}, surrounded, program, None)

    def test_holes_are_counted_behind_the_walk(self):
        self.refused(BadPiece, {"path": (1, 1, 2)}, need_surrounding, main(beside(HOLE, HOLE, None)))
        self.refused(BadProgram, {"place": (0, 0)}, need_surrounding, main(beside(HOLE, HOLE), ((), send(1, 1))))
        self.refused(BadProgram, {"place": (0, 0)}, need_surrounding, main(STOP, ((), send(1, 1))))

    def test_the_hole_counts_as_a_part(self):
        deep = main(waits(11, HOLE))
        self.assertEqual(need_surrounding(deep), deep)
        many = main(beside(of_parts(78)[1], HOLE))
        self.assertEqual(need_surrounding(many), many)

    def test_a_surrounding_is_no_program(self):
        for surrounding, path, _ in GOOD:
            self.refused(BadPiece, {"path": path}, need_program, surrounding)


class Surrounded(Case):

    def test_the_example(self):
        self.assert_same(surrounded(((), ("new", 1, ("hole",))), ((), ("send", 0, 1, ("one", ())))),
                         ((), ("new", 1, ("send", 0, 1, ("one", ())))))

    def test_as_it_stands(self):
        piece = beside(send(0, 1), take(1, 4, send(4, 6)))
        for surrounding, _, names in GOOD:
            result = surrounded(surrounding, main(piece))
            self.assertEqual(result[0], surrounding[0])
            self.assertEqual(result[1], put(surrounding[1], piece))
        self.assert_same(surrounded(surrounding=main(wait(HOLE)), program=main(STOP)), main(wait()))

    def test_many_programs(self):
        for program in random_programs(12, 40, 4):
            if len(program[0]) > 1:
                continue
            self.assertEqual(surrounded(main(HOLE), program), program)
            self.assertEqual(surrounded(main(new(2, beside(HOLE, STOP))), program),
                             (program[0], new(2, beside(program[1], STOP))))

    def test_definitions(self):
        surrounding = main(beside(call(1, 5), wait(HOLE)), ((), STOP), ((0,), wait(call(0))))
        program = main(one(wait(call(0, 3)), send(0, 1, call(1))), ((2,), take(2, 3, call(1))), ((), wait(call(1))))
        wanted = main(
            beside(call(1, 5), wait(one(wait(call(2, 3)), send(0, 1, call(3))))),
            ((), STOP), ((0,), wait(call(0))), ((2,), take(2, 3, call(3))), ((), wait(call(3))))
        self.assert_same(surrounded(surrounding, program), wanted)

    def test_calls_everywhere_are_moved(self):
        definition = ((0,), one(alike(0, 0, wait(new(1, call(0, 1)))), unlike(0, 0, send(0, 0, call(0, 0))), take(0, 2, call(0, 2))))
        moved = ((0,), one(alike(0, 0, wait(new(1, call(1, 1)))), unlike(0, 0, send(0, 0, call(1, 0))), take(0, 2, call(1, 2))))
        first = ((), wait(call(0)))
        self.assert_same(surrounded(main(beside(HOLE, call(0)), first), main(call(0, 3), definition)),
                         main(beside(call(1, 3), call(0)), first, moved))
        self.assert_same(beside_of(main(call(0), first), main(new(1, call(0, 1)), definition)),
                         main(beside(call(0), new(1, call(1, 1))), first, moved))

    def test_four_and_five_definitions(self):
        four = [((), STOP)] * 4
        two = [((), STOP)] * 2
        self.assertEqual(surrounded(main(HOLE, *four), main(STOP)), main(STOP, *four))
        self.assertEqual(surrounded(main(HOLE), main(call(3), *four)), main(call(3), *four))
        self.assertEqual(surrounded(main(HOLE, *two), main(call(1), *two)), main(call(3), *four))
        self.refused(TooGreat, {"most": 4}, surrounded, main(HOLE, *four), main(STOP, ((), STOP)))
        self.refused(TooGreat, {"most": 4}, surrounded, main(HOLE, *two), main(STOP, *two, ((), STOP)))
        self.refused(TooGreat, {"most": 4}, surrounded, main(waits(11, HOLE), *four), main(wait(), ((), STOP)))

    def test_the_result_is_checked(self):
        self.assertEqual(measures(surrounded(main(waits(10, HOLE)), main(wait()))), (12, 12))
        self.refused(TooGreat, {"most": 12}, surrounded, main(waits(11, HOLE)), main(wait()))
        self.assertEqual(len(parts_of(surrounded(main(beside(HOLE, STOP)), of_parts(78)))), 80)
        self.refused(TooGreat, {"most": 80}, surrounded, main(beside(HOLE, STOP)), of_parts(79))

    def test_the_surrounding_is_checked_first(self):
        self.refused(BadSurrounding, {"path": ()}, surrounded, main(STOP), main(None))
        self.refused(BadPiece, {"path": (1,)}, surrounded, main(HOLE), main(None))
        self.refused(BadPiece, {"path": (1,)}, surrounded, main(HOLE, *[((), STOP)] * 4), main(None, ((), STOP)))
        self.refused(BadPiece, {"path": (1,)}, surrounded, main(HOLE), main(HOLE))
        for value in values_of_every_kind():
            if not (isinstance(value, tuple) and len(value) == 2):
                self.refused(BadProgram, {"place": ()}, surrounded, main(HOLE), value)


def put(piece, within):
    """The piece with another one for its hole."""
    if piece == HOLE:
        return within
    if isinstance(piece, tuple):
        return tuple(put(item, within) for item in piece)
    return piece


class Beside(Case):

    def test_side_by_side(self):
        self.assert_same(beside_of(main(STOP), main(STOP)), main(beside(STOP, STOP)))
        self.assert_same(beside_of(main(beside(wait(), send(0, 1))), main(new(1, STOP))),
                         main(beside(beside(wait(), send(0, 1)), new(1, STOP))))
        self.assert_same(beside_of(one=main(wait()), other=main(send(1, 2))), main(beside(wait(), send(1, 2))))

    def test_definitions(self):
        left = main(call(0), ((), wait(call(0))))
        right = main(beside(call(1, 3), call(0)), ((), wait(call(0))), ((5,), send(5, 5, call(0))))
        self.assert_same(beside_of(left, right), main(
            beside(call(0), beside(call(2, 3), call(1))), ((), wait(call(0))), ((), wait(call(1))), ((5,), send(5, 5, call(1)))))
        self.assert_same(beside_of(right, left), main(
            beside(beside(call(1, 3), call(0)), call(2)), ((), wait(call(0))), ((5,), send(5, 5, call(0))), ((), wait(call(2)))))

    def test_four_and_five_definitions(self):
        some = [((), STOP)] * 4
        self.assertEqual(beside_of(main(STOP, *some[:3]), main(call(0), *some[:1])), main(beside(STOP, call(3)), *some))
        self.refused(TooGreat, {"most": 4}, beside_of, main(STOP, *some), main(STOP, *some[:1]))
        self.refused(TooGreat, {"most": 4}, beside_of, main(STOP, *some[:1]), main(STOP, *some))
        self.refused(TooGreat, {"most": 4}, beside_of, main(waits(11), *some), main(STOP, *some))

    def test_the_result_is_checked(self):
        self.assertEqual(measures(beside_of(main(waits(10)), main(STOP))), (13, 12))
        self.refused(TooGreat, {"most": 12}, beside_of, main(waits(11)), main(STOP))
        self.refused(TooGreat, {"most": 12}, beside_of, main(STOP), main(waits(11)))
        self.assertEqual(len(parts_of(beside_of(of_parts(40), of_parts(39)))), 80)
        self.refused(TooGreat, {"most": 80}, beside_of, of_parts(40), of_parts(40))

    def test_one_is_checked_first(self):
        self.refused(BadPiece, {"path": (1,)}, beside_of, main(None), 3)
        self.refused(BadProgram, {"place": ()}, beside_of, main(STOP), 3)
        self.refused(BadPiece, {"path": (1,)}, beside_of, main(STOP), main(HOLE))
        self.refused(BadPiece, {"path": (1,)}, beside_of, main(HOLE), main(STOP))
        self.assertEqual(beside_of(main(unlike(1, 2, wait())), main(take(1, 2))),
                         main(beside(unlike(1, 2, wait()), take(1, 2))))
