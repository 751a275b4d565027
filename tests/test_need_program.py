"""Points 2, 3, 4 and 10: the forms of pieces and programs, the walk and the order of its errors."""

from passednames.contexts import beside_of, surrounded
from passednames.errors import BadPiece, BadProgram, TooGreat
from passednames.programs import (free_names, is_finite, measures, need_finite, need_program, part_at, parts_of,
                                  put_at, renamed, same_but_bound)
from passednames.names import AS_IS
from tests.samples import (Case, HOLE, STOP, Odd, alike, beside, call, main, new, of_parts, one, random_programs,
                           send, take, unlike, values_of_every_kind, wait, waits)

GOOD = [
    main(STOP), main(beside()), main(send(0, 9)), main(take(9, 0)), main(take(3, 3, send(3, 3))), main(wait()),
    main(alike(0, 1, wait())), main(unlike(1, 1, wait())), main(alike(0, 1, unlike(2, 3, alike(4, 5, send(6, 7))))),
    main(one(send(1, 2), take(1, 2), wait(), alike(1, 2, wait()), unlike(1, 2, wait()))), main(new(4, STOP)),
    main(beside(STOP, beside(), one(wait()), new(1, beside(STOP)))), main(wait(beside(new(0, one(wait())), STOP))),
    main(STOP, ((), STOP)), main(call(0), ((), wait(call(0)))), main(beside(call(0, 3, 3)), ((1, 0), send(0, 1))),
    main(new(1, call(1, 1)), ((), STOP), ((5,), take(5, 6, new(7, one(wait(call(1, 7)), send(6, 7, call(0))))))),
    main(STOP, ((0, 1, 2, 3), STOP), ((9, 8, 7, 6), STOP), ((), STOP), ((4,), STOP)),
    main(call(3, 1, 1, 1, 1), ((), STOP), ((), STOP), ((), STOP), ((0, 1, 2, 3), send(0, 1, send(2, 3)))),
    main(alike(0, 1, wait(call(0))), ((), wait(new(3, call(0))))),
    main(STOP, ((0,), alike(0, 0, take(0, 1, one(alike(0, 1, wait(call(0, 1)))))))),
]


class Good(Case):

    def test_programs_are_returned(self):
        for program in GOOD + random_programs(1, 60):
            self.assertEqual(need_program(program), program)

    def test_by_name(self):
        self.assertEqual(need_program(value=main(STOP)), main(STOP))

    def test_most_things(self):
        for program in (main(one(*[wait()] * 20)), main(beside(*[STOP] * 4)), main(STOP, *[((), STOP)] * 4),
                        main(call(0, 1, 1, 2, 3), ((3, 2, 1, 0), STOP)), main(waits(11)), of_parts(80)):
            self.assertEqual(need_program(program), program)

    def test_the_empty_rows(self):
        self.assertEqual(need_program(((), ("one", ()))), ((), ("one", ())))
        self.assertEqual(need_program(((), ("beside", ()))), ((), ("beside", ())))


class NoProgram(Case):

    def bad(self, place, value):
        self.refused(BadProgram, {"place": place}, need_program, value)

    def test_no_pair(self):
        for value in values_of_every_kind() + [(), (1,), ((), STOP, STOP), [(), STOP], 3, ((),)]:
            if isinstance(value, tuple) and len(value) == 2:
                continue
            self.bad((), value)

    def test_definitions_are_no_tuple_of_at_most_four(self):
        for value in values_of_every_kind() + [3]:
            if isinstance(value, tuple) and len(value) <= 4:
                continue
            self.bad((0,), (value, STOP))
        self.bad((0,), ([((), STOP)], STOP))
        self.bad((0,), ((((), STOP),) * 5, STOP))
        self.bad((0,), ((None,) * 5, None))

    def test_a_definition_is_no_pair(self):
        for value in values_of_every_kind() + [(), ((),), ((), STOP, STOP), [(), STOP], 3]:
            if isinstance(value, tuple) and len(value) == 2 and isinstance(value[0], tuple):
                continue
            self.bad((0, 0), main(STOP, value))
            self.bad((0, 2), main(None, ((), None), ((1,), None), value, None))

    def test_params_are_at_most_four_unlike_names(self):
        for params in [*values_of_every_kind(), 3, (0, 1, 2, 3, 4), (1, 1), (0, 1, 0), (3, 2, 1, 3), (0, 10), (-1,),
                       [0, 1], [], (True,), (False,), (0, True), (1.0,), (None,), ("a",), (Odd(),), "ab", {0: 1}]:
            if isinstance(params, tuple) and not params:
                continue
            self.bad((0, 1), main(None, ((0,), None), (params, STOP)))

    def test_the_first_definition_is_told(self):
        self.bad((0, 1), main(None, ((0,), None), 5, 6))
        self.bad((0, 3), main(None, ((0,), None), ((), None), ((), None), ((1, 1), None)))

    def test_definitions_are_asked_ahead_of_bodies(self):
        self.bad((0, 1), main(Odd(), ((), Odd()), None))

    def test_free_names_of_bodies(self):
        for body in (send(0, 1), send(1, 0), take(1, 0), take(0, 2, send(0, 1)), alike(0, 1, wait()), new(2, wait(send(1, 0))),
                     one(wait(), unlike(1, 0, wait())), wait(call(0, 1)), new(0, wait(new(2, send(0, 1)))),
                     new(1, one(send(1, 0), take(2, 1)))):
            self.bad((0, 0), main(STOP, ((0,), body)))
        for body in (take(0, 1, send(0, 1)), new(1, send(1, 0)), new(1, take(1, 2, send(2, 1))), wait(call(0, 0)),
                     take(0, 0, send(0, 0)), one(take(0, 3, wait(call(0, 3))))):
            self.assertEqual(need_program(main(STOP, ((0,), body))), main(STOP, ((0,), body)))
        self.bad((0, 0), main(STOP, ((), send(0, 0))))
        self.bad((0, 0), main(STOP, ((1,), take(0, 0))))

    def test_free_names_are_asked_last(self):
        body = ((0,), send(0, 1))
        self.bad((0, 1), main(STOP, ((), STOP), body, body))
        self.refused(BadPiece, {"path": (1,)}, need_program, main(None, body))
        self.refused(BadPiece, {"path": (0, 1, 1)}, need_program, main(STOP, body, ((), None)))
        self.refused(TooGreat, {"most": 12}, need_program, main(waits(12), body))

    def test_a_main_may_have_free_names(self):
        self.assertEqual(free_names(main(send(0, 9))), (0, 9))


class NoPiece(Case):

    def bad(self, path, value):
        self.refused(BadPiece, {"path": path}, need_program, value)

    def test_the_example(self):
        self.bad((1, 1, 1, 3), ((), ("beside", (("wait", ("one", ())), ("alike", 0, 1, ("one", ()))))))

    def test_values_of_every_kind_everywhere(self):
        for value in values_of_every_kind() + [(), 3, STOP[:1], STOP + ((),)]:
            self.bad((1,), main(value))
            self.bad((1, 3), main(send(0, 1, value)))
            self.bad((1, 3), main(take(0, 1, value)))
            self.bad((1, 3), main(alike(0, 1, value)))
            self.bad((1, 3), main(unlike(0, 1, value)))
            self.bad((1, 1), main(wait(value)))
            self.bad((1, 2), main(new(0, value)))
            self.bad((1, 1, 1), main(one(wait(), value, wait())))
            self.bad((1, 1, 3), main(beside(STOP, STOP, STOP, value)))
            self.bad((0, 0, 1), main(STOP, ((), value)))
            self.bad((0, 1, 1, 1), main(STOP, ((), STOP), ((), wait(value))))

    def test_words_and_lengths(self):
        for piece in [("stop",), ("Send", 0, 1, STOP), ("send", 0, 1), ("send", 0, 1, STOP, STOP), ("take", 0, STOP),
                      ("take", 0, 1), ("wait",), ("wait", STOP, STOP), ("alike", 0, wait()), ("unlike", 0, 1, 2, wait()),
                      ("one",), ("one", (), ()), ("beside",), ("beside", STOP, STOP), ("new", STOP),
                      ("new", 0), ("new", 0, 1, STOP), ("call",), ("call", 0), ("call", 0, (), ()), ("", 0),
                      ("sends", 0, (1,), STOP), ("takes", 0, (1,), STOP), ("Call", 0, ()), ("stop", 0, ()), ("hole", 0, ()), ["send", 0, 1, STOP], "send"]:
            self.bad((1,), main(piece, ((), STOP)))

    def test_names(self):
        for value in values_of_every_kind() + [(0,), "0"]:
            for piece in (send(value, 1), send(1, value), take(value, 1), take(1, value), alike(value, 1, wait()),
                          alike(1, value, wait()), unlike(value, 1, wait()), unlike(1, value, wait()), new(value, STOP),
                          call(0, value)):
                self.bad((1,), main(piece, ((0,), STOP)))

    def test_rows_of_one_and_beside(self):
        for value in values_of_every_kind() + [3, [wait()], {0: wait()}, wait]:
            if isinstance(value, tuple):
                continue
            self.bad((1,), main(("one", value)))
            self.bad((1,), main(("beside", value)))
        self.bad((1,), main(one(*[wait()] * 21)))
        self.bad((1,), main(one(*[None] * 21)))
        self.bad((1,), main(beside(*[STOP] * 5)))
        self.bad((1, 1, 0), main(one(*[None] * 20)))
        self.bad((1, 1, 0), main(beside(*[None] * 4)))

    def test_calls(self):
        two = (((0, 1), STOP), ((), STOP))
        for piece in [call(2), call(-1), call(True, 1, 1), call(False, 1, 1), call(0), call(0, 1), call(0, 1, 2, 3),
                      call(1, 0), call(None), call("0", 1, 1), call(0.0, 1, 1), ("call", 0, [1, 1]), ("call", 1, []),
                      ("call", 1, None), ("call", 1, {}), call(0, 1, True), call(0, 1, 10), call(0, -1, 1), call(Odd())]:
            self.bad((1,), main(piece, *two))
            self.bad((0, 1, 1, 1), main(STOP, two[0], ((), wait(piece))))
        self.bad((1,), main(call(0)))

    def test_branches_where_due(self):
        for piece in (STOP, one(wait()), beside(), beside(wait()), new(0, wait()), call(0), HOLE):
            self.bad((1, 3), main(alike(0, 1, piece), ((), STOP)))
            self.bad((1, 3), main(unlike(0, 1, piece), ((), STOP)))
            self.bad((1, 1, 1), main(one(wait(), piece), ((), STOP)))
            self.bad((1, 1, 0, 3, 3), main(one(alike(0, 0, unlike(1, 1, piece))), ((), STOP)))
            self.bad((0, 1, 1, 1, 0), main(STOP, ((), STOP), ((), one(piece))))

    def test_no_beside_in_a_body(self):
        for piece in (beside(), beside(STOP, STOP)):
            self.bad((0, 0, 1), main(STOP, ((), piece)))
            self.bad((0, 0, 1, 2), main(STOP, ((), new(1, piece))))
            self.bad((0, 0, 1, 1, 0, 1), main(STOP, ((), one(wait(piece)))))

    def test_calls_in_a_body_are_guarded(self):
        definition = ((0, 1), STOP)
        self.bad((0, 1, 1), main(STOP, definition, ((2, 3), call(0, 2, 3))))
        self.bad((0, 0, 1, 2), main(STOP, ((), new(1, call(0)))))
        for body in (send(2, 3, call(0, 2, 3)), take(2, 3, call(0, 2, 3)), wait(call(0, 2, 3)),
                     one(alike(2, 3, unlike(2, 3, wait(new(4, call(0, 4, 4)))))), wait(new(3, new(2, call(1, 2, 3))))):
            program = main(STOP, definition, ((2, 3), body))
            self.assertEqual(need_program(program), program)
        # Unguarded beside guarded: the guard of another part or of another BODY does not serve.
        self.bad((0, 1, 1, 2), main(STOP, ((), wait(call(0))), ((), new(1, call(0)))))

    def test_a_hole_is_no_piece(self):
        for program, path in ((main(HOLE), (1,)), (main(wait(HOLE)), (1, 1)), (main(STOP, ((), HOLE)), (0, 0, 1))):
            self.bad(path, program)

    def test_the_first_of_the_walk(self):
        self.bad((0, 0, 1, 1), main(None, ((), wait(None)), ((), None)))
        self.bad((0, 1, 1), main(None, ((), STOP), ((), None)))
        self.bad((1, 1, 0, 3), main(beside(send(0, 1, None), None)))
        self.bad((1, 1, 0, 1, 1, 1), main(beside(one(wait(), wait(None)), None)))

    def test_a_whole_ahead_of_its_parts(self):
        self.bad((1,), main(("send", 0, None, Odd())))
        self.bad((1, 1, 0), main(one(send(0, None, None), None)))
        self.bad((1,), main(("one", (None,) * 21)))
        self.bad((0, 0, 1), main(STOP, ((), beside(None))))


class TooGreatPrograms(Case):

    def test_thirteen_deep(self):
        self.assertEqual(need_program(main(waits(11))), main(waits(11)))
        self.refused(TooGreat, {"most": 12}, need_program, main(waits(12)))
        self.refused(TooGreat, {"most": 12}, need_program, main(STOP, ((), waits(12))))
        self.assertEqual(measures(main(STOP, ((), waits(11)))), (13, 12))

    def test_every_word_is_one_deeper(self):
        for whole in (lambda p: send(0, 1, p), lambda p: take(0, 1, p), lambda p: new(1, p), lambda p: beside(p), wait):
            piece = STOP
            for _ in range(11):
                piece = whole(piece)
            self.assertEqual(measures(main(piece)), (12, 12))
            self.refused(TooGreat, {"most": 12}, need_program, main(whole(piece)))
        for whole in (lambda p: alike(0, 1, p), lambda p: unlike(0, 1, p), lambda p: wait(one(p))):
            piece = wait()
            while measures(main(piece))[1] < 11:
                piece = whole(piece)
            need_program(main(piece))
            self.refused(TooGreat, {"most": 12}, need_program, main(whole(whole(piece))))

    def test_whatever_is_thirteen_deep(self):
        for value in values_of_every_kind():
            self.refused(TooGreat, {"most": 12}, need_program, main(waits(12, value)))
            self.refused(BadPiece, {"path": (1,) + (1,) * 11}, need_program, main(waits(11, value)))

    def test_without_end(self):
        piece = waits(5000)
        self.refused(TooGreat, {"most": 12}, need_program, main(piece))

    def test_eighty_one_parts(self):
        self.assertEqual(measures(of_parts(80))[0], 80)
        self.refused(TooGreat, {"most": 80}, need_program, of_parts(81))
        self.refused(TooGreat, {"most": 80}, need_program, main(of_parts(78)[1], ((), waits(2))))
        self.assertEqual(measures(main(of_parts(78)[1], ((), wait())))[0], 80)

    def test_a_part_is_met_at_each_place(self):
        shared = one(*[wait()] * 9)
        self.assertEqual(measures(main(beside(shared, shared, shared, shared))), (77, 4))
        wide = one(*[wait()] * 10)
        self.refused(TooGreat, {"most": 80}, need_program, main(beside(wide, wide, wide, wide)))
        piece = STOP
        for _ in range(11):
            piece = beside(piece, piece, piece, piece)
        self.refused(TooGreat, {"most": 80}, need_program, main(piece))

    def test_whatever_is_the_eighty_first(self):
        full = of_parts(79)[1]
        for value in values_of_every_kind():
            self.refused(TooGreat, {"most": 80}, need_program, main(beside(full, value)))
            self.refused(TooGreat, {"most": 80}, need_program, main(value, ((), waits(10)), *[((), one(*[wait()] * 11))] * 3))
            self.refused(BadPiece, {"path": (1, 1, 1)}, need_program, main(beside(of_parts(78)[1], value)))

    def test_deep_ahead_of_many_ahead_of_form(self):
        # The thing that is no piece is the 81st in each of these, as 69 or 70 parts are met ahead of the last item.
        ahead = one(*[wait()] * 17), one(*[wait()] * 15)
        deep = main(beside(*ahead, wait(), waits(11, None)))
        self.refused(TooGreat, {"most": 12}, need_program, deep)
        flat = main(beside(*ahead, waits(2), waits(10, None)))
        self.refused(TooGreat, {"most": 80}, need_program, flat)
        fewer = main(beside(*ahead, wait(), waits(10, None)))
        self.refused(BadPiece, {"path": (1, 1, 3) + (1,) * 10}, need_program, fewer)

    def test_the_first_met_is_told(self):
        self.refused(BadPiece, {"path": (0, 0, 1)}, need_program, main(waits(12), ((), None)))
        self.refused(TooGreat, {"most": 12}, need_program, main(None, ((), waits(12))))
        self.refused(TooGreat, {"most": 12}, need_program, main(beside(waits(11), None)))
        self.refused(BadPiece, {"path": (1, 1, 0)}, need_program, main(beside(None, waits(11))))


class EveryParameter(Case):
    """Every parameter named program, one or other is checked so, ahead of those behind it."""

    WRONG = [(None, BadProgram, {"place": ()}), ((None, STOP), BadProgram, {"place": (0,)}),
             (main(STOP, None), BadProgram, {"place": (0, 0)}), (main(None), BadPiece, {"path": (1,)}),
             (main(waits(12)), TooGreat, {"most": 12}), (of_parts(81), TooGreat, {"most": 80}),
             (main(STOP, ((), send(0, 0))), BadProgram, {"place": (0, 0)}), (main(HOLE), BadPiece, {"path": (1,)})]

    def test_alone(self):
        for value, error, told in self.WRONG:
            for asked in (parts_of, free_names, measures, is_finite, need_finite):
                self.refused(error, told, asked, value)
                self.refused(error, told, asked, program=value)

    def test_ahead_of_others(self):
        for value, error, told in self.WRONG:
            for asked, more in ((part_at, [None]), (put_at, [None, None]), (renamed, [None]), (same_but_bound, [0]),
                                (beside_of, [0])):
                self.refused(error, told, asked, value, *more)
            self.refused(error, told, same_but_bound, main(STOP), value)
            self.refused(error, told, beside_of, main(STOP), value)
            self.refused(error, told, surrounded, main(HOLE), value)

    def test_finite_behind_the_walk(self):
        self.refused(BadPiece, {"path": (1, 1, 1)}, need_finite, main(beside(call(0), None), ((), STOP)))
        self.assertEqual(renamed(main(STOP), AS_IS), main(STOP))
