"""Points 5, 8 and 14: threads, first standings, the check of standings, opening and settling."""

import random

from passednames.errors import BadGiven, BadIndex, BadParameter, BadPiece, BadProgram, BadStanding, TooGreat
from passednames.graphs import graph
from passednames.names import AS_IS
from passednames.programs import free_names, part_at, parts_of, renamed
from passednames.standings import need_standing, settled, start, threads_of
from tests import oracle
from tests.samples import (Case, HOLE, STOP, Odd, alike, beside, call, main, new, one, random_programs, send, take,
                           unlike, values_of_every_kind, wait, waits)

EXAMPLE = main(("new", 0, ("beside", (("send", 3, 0, ("one", ())), ("take", 0, 1, ("one", ()))))))
NINES = (9,) * 10

# All ten names, and so many own ones, in three threads.
TEN = beside(send(0, 1, send(2, 3, send(4, 5))), send(6, 7, send(8, 9)))


def ten_and(many):
    """A piece with all ten names free and so many news that stand in its threads."""
    piece = beside(TEN, *[new(3, wait(send(3, 3)))] * many)
    return piece


def threads(many):
    """A piece that is opened to so many threads."""
    pieces = [wait()] * many
    rows = [beside(*pieces[place:place + 4]) for place in range(0, many, 4)]
    return beside(*rows)


class Start(Case):

    def test_the_example(self):
        self.assert_same(start(EXAMPLE), ((1, 1, (((1, 2, 1, 0), (1, 0)), ((1, 2, 1, 1), (1,)))), (3,)))

    def test_what_is_opened(self):
        for piece, standing, keys in (
            (STOP, (0, 0, ()), ()),
            (beside(), (0, 0, ()), ()),
            (beside(STOP, beside(), one()), (0, 0, ()), ()),
            (wait(), (0, 0, (((1,), ()),)), ()),
            (wait(beside(wait(), wait())), (0, 0, (((1,), ()),)), ()),
            (one(wait(), send(0, 1)), (2, 0, (((1,), (0, 1)),)), (0, 1)),
            (send(4, 2), (2, 0, (((1,), (0, 1)),)), (2, 4)),
            (take(4, 2, send(2, 7)), (2, 0, (((1,), (0, 1)),)), (4, 7)),
            (alike(6, 5, wait()), (2, 0, (((1,), (0, 1)),)), (5, 6)),
            (unlike(3, 3, wait()), (1, 0, (((1,), (0,)),)), (3,)),
            (new(2, STOP), (0, 0, ()), ()),
            (new(2, wait()), (0, 0, (((1, 2), ()),)), ()),
            (new(2, send(2, 2)), (0, 1, (((1, 2), (0,)),)), ()),
            (new(2, send(1, 2)), (1, 1, (((1, 2), (0, 1)),)), (1,)),
            (new(2, send(2, 3)), (1, 1, (((1, 2), (1, 0)),)), (3,)),
            (new(2, new(2, send(2, 2))), (0, 1, (((1, 2, 2), (0,)),)), ()),
            (new(2, new(3, send(3, 2))), (0, 2, (((1, 2, 2), (0, 1)),)), ()),
            (new(2, beside(send(2, 2), new(2, send(2, 2)))), (0, 2, (((1, 2, 1, 0), (0,)), ((1, 2, 1, 1, 2), (1,)))), ()),
            (beside(send(2, 2), new(2, send(2, 2))), (1, 1, (((1, 1, 0), (0,)), ((1, 1, 1, 2), (1,)))), (2,)),
            (beside(new(0, send(0, 5)), send(1, 5), new(0, send(0, 1))),
             (2, 2, (((1, 1, 0, 2), (2, 0)), ((1, 1, 1), (1, 0)), ((1, 1, 2, 2), (3, 1)))), (5, 1)),
            (beside(wait(), beside(send(3, 4), STOP, one(wait(send(4, 1)))), send(0, 3)),
             (4, 0, (((1, 1, 0), ()), ((1, 1, 1, 1, 0), (0, 1)), ((1, 1, 1, 1, 2), (2, 1)), ((1, 1, 2), (3, 0)))),
             (3, 4, 1, 0)),
        ):
            self.assert_same(start(main(piece)), (standing, keys))

    def test_calls(self):
        self.assert_same(start(main(call(0, 7, 3), ((0, 1), send(1, 0)))), ((2, 0, (((0, 0, 1), (0, 1)),)), (7, 3)))
        self.assert_same(start(main(call(0, 7, 7), ((0, 1), send(1, 0)))), ((1, 0, (((0, 0, 1), (0, 0)),)), (7,)))
        self.assert_same(start(main(call(0, 7, 3), ((5, 2), send(2, 5)))), ((2, 0, (((0, 0, 1), (0, 1)),)), (3, 7)))
        self.assert_same(start(main(new(3, call(1, 3)), ((), STOP), ((0,), new(1, new(0, take(1, 2, send(0, 2))))))),
                         ((0, 2, (((0, 1, 1, 2, 2), (0, 1)),)), ()))
        self.assert_same(start(main(beside(call(0, 4), call(0, 4)), ((1,), new(0, send(0, 1))))),
                         ((1, 2, (((0, 0, 1, 2), (1, 0)), ((0, 0, 1, 2), (2, 0)))), (4,)))
        self.assert_same(start(main(call(0, 4), ((1,), STOP))), ((0, 0, ()), ()))
        self.assert_same(start(main(call(0, 4, 5), ((2, 1), one(wait(call(0, 1, 2)))))), ((2, 0, (((0, 0, 1), (0, 1)),)), (5, 4)))

    def test_given(self):
        piece = beside(send(0, 1), take(2, 3, send(3, 4)))
        rows = ((1, 1, 0), (1, 1, 1))
        for given, numbers, keys in (
            (AS_IS, ((0, 1), (2, 3)), (0, 1, 2, 4)), (NINES, ((0, 0), (0, 0)), (9,)),
            ((5, 5, 6, 6, 6, 0, 0, 0, 0, 0), ((0, 0), (1, 1)), (5, 6)),
            ((3, 2, 3, 0, 2, 0, 0, 0, 0, 0), ((0, 1), (0, 1)), (3, 2)),
            ((9, 8, 7, 6, 5, 4, 3, 2, 1, 0), ((0, 1), (2, 3)), (9, 8, 7, 5)),
        ):
            standing = (len(keys), 0, tuple(zip(rows, numbers)))
            self.assert_same(start(main(piece), given), (standing, keys))
            self.assert_same(start(program=main(piece), given=given), (standing, keys))

    def test_new_names_are_none_of_the_given_ones(self):
        for given in (AS_IS, NINES, (0,) * 10, (5, 4, 3, 2, 1, 0, 9, 8, 7, 6)):
            self.assert_same(start(main(new(1, send(1, 1))), given), ((0, 1, (((1, 2), (0,)),)), ()))
            self.assert_same(start(main(new(1, new(2, send(1, 3, send(2, 2))))), given),
                             ((1, 2, (((1, 2, 2), (1, 2, 0)),)), (given[3],)))

    def test_eight_and_nine_threads(self):
        self.assertEqual(len(start(main(threads(8)))[0][2]), 8)
        self.refused(TooGreat, {"most": 8}, start, main(threads(9)))
        self.assertEqual(len(start(main(beside(threads(8), STOP, new(1, STOP))))[0][2]), 8)
        self.refused(TooGreat, {"most": 8}, start, main(
            beside(beside(*[call(0)] * 4), beside(*[call(0)] * 4), call(0)), ((), wait())))

    def test_twelve_and_thirteen_names(self):
        self.assertEqual(start(main(ten_and(2)))[0][:2], (10, 2))
        self.refused(TooGreat, {"most": 12}, start, main(ten_and(3)))
        self.assertEqual(start(main(ten_and(3)), (1,) * 10)[0][:2], (1, 3))
        self.assertEqual(start(main(ten_and(3)), (0, 0, 2, 3, 4, 5, 6, 7, 8, 9))[0][:2], (9, 3))

    def test_threads_ahead_of_names(self):
        self.refused(TooGreat, {"most": 8}, start, main(beside(ten_and(3), threads(4))))
        self.refused(TooGreat, {"most": 12}, start, main(beside(ten_and(3), threads(3))))

    def test_errors(self):
        for value in values_of_every_kind() + [AS_IS[:9], list(AS_IS), (10,) * 10, (True,) * 10]:
            self.refused(BadGiven, {"value": value}, start, main(threads(9)), value)
            self.refused(BadPiece, {"path": (1,)}, start, main(HOLE), value)
        self.refused(BadProgram, {"place": ()}, start, 3)

    def test_other_programs(self):
        chance = random.Random(20)
        for program in random_programs(21, 80):
            for given in (AS_IS, NINES, tuple(chance.randrange(3) for _ in range(10))):
                self.assertEqual(oracle.outcome(start, program, given), oracle.outcome(oracle.first, program, given))

    def test_a_renamed_program(self):
        chance = random.Random(22)
        for program in random_programs(23, 60):
            given = tuple(chance.randrange(5) for _ in range(10))
            (known, own, rows), keys = start(program, given)
            (known2, own2, rows2), keys2 = start(renamed(program, given), AS_IS)
            self.assertEqual((known, own, sorted(keys)), (known2, own2, sorted(keys2)))
            self.assertEqual([path for path, _ in rows], [path for path, _ in rows2])


WIDE = main(
    beside(send(0, 1, wait()), one(take(2, 3, send(3, 2)), wait(beside())), one(), new(4, STOP), ),
    ((5, 6), one(alike(5, 6, send(5, 5)))),
)


class NeedStanding(Case):

    def good(self, program, *standings):
        for standing in standings:
            self.assert_same(need_standing(program, standing), standing)

    def bad(self, place, value, program=WIDE):
        self.refused(BadStanding, {"place": place}, need_standing, program, value)

    def test_whether_moves_lead_there_or_not(self):
        self.good(
            WIDE, (0, 0, ()), (2, 0, (((1, 1, 0), (0, 1)),)), (1, 1, (((1, 1, 0), (0, 1)),)), (1, 1, (((1, 1, 0), (1, 0)),)),
            (0, 2, (((1, 1, 0), (0, 1)),)), (1, 0, (((1, 1, 0), (0, 0)),)), (0, 1, (((1, 1, 0), (0, 0)),)),
            (0, 0, (((1, 1, 0, 3), ()), ((1, 1, 0, 3), ()))), (1, 0, (((1, 1, 1), (0,)),)), (1, 0, (((1, 1, 1, 1, 0), (0,)),)),
            (1, 1, (((1, 1, 1, 1, 0, 3), (1, 0)), ((1, 1, 1, 1, 1), ()))),
            (2, 1, (((0, 0, 1), (2, 0)), ((0, 0, 1, 1, 0), (1, 2)), ((0, 0, 1, 1, 0, 3), (0,)))),
            (0, 0, (((1, 1, 0, 3), ()),) * 8),
        )
        self.assertEqual(need_standing(program=WIDE, value=(0, 0, ())), (0, 0, ()))
        self.good(main(wait(), ((0,), new(1, send(0, 1)))), (1, 1, (((0, 0, 1, 2), (0, 1)), ((1,), ()))))

    def test_standings_of_graphs(self):
        for program in random_programs(24, 40):
            found = oracle.outcome(oracle.graph, program, AS_IS)
            if found[0] != "too great":
                self.good(program, *found[0])

    def test_no_triple(self):
        for value in values_of_every_kind() + [(), (0, 0), (0, 0, (), ()), [0, 0, ()], 3]:
            self.bad((), value)

    def test_known_and_own(self):
        for value in values_of_every_kind():
            if isinstance(value, int) and not isinstance(value, bool) and value >= 0:
                continue
            self.bad((0,), (value, 0, ()))
            self.bad((0,), (value, value, value))
            self.bad((1,), (0, value, ()))
            self.bad((1,), (13, value, value))

    def test_more_than_twelve_together(self):
        for known, own in ((13, 0), (0, 13), (7, 6), (10 ** 30, 0), (12, 1)):
            self.refused(TooGreat, {"most": 12}, need_standing, WIDE, (known, own, ()))
            self.refused(TooGreat, {"most": 12}, need_standing, WIDE, (known, own, None))
        self.bad((), (12, 0, ()))
        self.bad((), (6, 6, ()))

    def test_twelve_names_stand(self):
        rows = tuple(((1, 1, 0), (number, number + 1)) for number in range(0, 12, 2))
        self.good(WIDE, (12, 0, rows), (0, 12, rows))

    def test_threads_are_a_tuple_of_at_most_eight(self):
        for value in values_of_every_kind() + [3, [((1, 1, 0, 3), ())]]:
            if not isinstance(value, tuple):
                self.bad((2,), (0, 0, value))
                self.bad((2,), (9, 0, value))
        self.refused(TooGreat, {"most": 8}, need_standing, WIDE, (0, 0, (((1, 1, 0, 3), ()),) * 9))
        self.refused(TooGreat, {"most": 8}, need_standing, WIDE, (0, 0, (None,) * 9))
        self.bad((2, 0), (0, 0, (None,) * 8))

    def test_things_that_are_no_threads(self):
        ahead = ((1, 1, 0), (0, 1))
        for value in values_of_every_kind() + [
            (), ((1, 1, 0, 3),), ((1, 1, 0, 3), (), ()), [(1, 1, 0, 3), ()], ((1, 1, 0), [0, 1]), ([1, 1, 0], (0, 1)),
            ((1, 1, 0), (0,)), ((1, 1, 0), (0, 1, 1)), ((1, 1, 0), ()), ((1, 1, 0), (0, 2)), ((1, 1, 0), (-1, 0)),
            ((1, 1, 0), (0, True)), ((1, 1, 0), (False, 1)), ((1, 1, 0), (0, 1.0)), ((1, 1, 0), (0, None)),
            ((1, 1, 0), (0, "1")), ((1, 1, 0), (Odd(), 0)), ((1, 1, 0), {0: 1, 1: 0}), ((1, 1, 0), None), ((1, 1, 0), 1),
            ((1,), (0, 1)), ((1,), (0, 1, 0)), ((1, 1, 2), ()), ((1, 1, 3), ()), ((1, 1, 3, 2), ()), ((1, 1, 0, 3, 1), ()),
            ((1, 1, 1, 1, 1, 1), ()), ((0, 0), ()), ((0, 0, 0), ()), ((), ()), ((2,), ()), ((1, 1, 0, 0), ()), ((0, 1, 1), ()),
            ((1, True, 0), (0, 1)), ((True, 1, 0), (0, 1)), ((1, 1, False), (0, 1)), ((1, 1, 0.0), (0, 1)),
            (None, (0, 1)), ("110", (0, 1)), ((1, 1, -4), (0, 1)), (Odd(), ()), ((1, 1, Odd()), ()), (STOP, ()),
        ]:
            self.bad((2, 0), (2, 0, (value, ahead)))
            self.bad((2, 1), (2, 0, (ahead, value)))
            self.bad((2, 1), (2, 0, (ahead, value, None)))

    def test_a_call_is_no_thread(self):
        program = main(beside(call(0), wait(call(0)), new(0, send(0, 0))), ((), wait(call(0))))
        for path in ((1, 1, 0), (1, 1, 1, 1), (0, 0, 1, 1), (1, 1, 2)):
            self.bad((2, 0), (0, 0, ((path, ()),)), program)
        self.good(program, (0, 0, (((1, 1, 1), ()), ((0, 0, 1), ()))))

    def test_numbers_come_up_in_their_order(self):
        for value in (
            (2, 0, (((1, 1, 0), (1, 0)),)), (0, 2, (((1, 1, 0), (1, 0)),)), (2, 0, (((1, 1, 0), (0, 0)),)),
            (2, 0, (((1, 1, 0), (1, 1)),)), (1, 1, (((1, 1, 0), (0, 0)),)), (1, 1, (((1, 1, 0), (1, 1)),)),
            (1, 0, ()), (0, 1, ()), (3, 0, (((1, 1, 0), (0, 1)),)), (2, 1, (((1, 1, 0), (0, 1)),)),
            (1, 2, (((1, 1, 0), (2, 0)), ((1, 1, 0), (1, 0)))), (2, 1, (((1, 1, 0), (2, 1)), ((1, 1, 0), (0, 0)))),
            (1, 0, (((1, 1, 0, 3), ()),)), (3, 0, (((1, 1, 0), (0, 2)), ((1, 1, 1), (1,)))),
        ):
            self.bad((), value)
        self.good(WIDE, (2, 1, (((1, 1, 0), (2, 0)), ((1, 1, 0), (1, 0)))), (3, 0, (((1, 1, 0), (0, 1)), ((1, 1, 1), (2,)))))

    def test_the_order_of_the_errors(self):
        self.refused(BadPiece, {"path": (1,)}, need_standing, main(None), None)
        self.bad((0,), (None, None, None))
        self.bad((1,), (13, None, None))
        self.refused(TooGreat, {"most": 12}, need_standing, WIDE, (13, 0, None))
        self.bad((2,), (1, 0, None))
        self.refused(TooGreat, {"most": 8}, need_standing, WIDE, (1, 0, (None,) * 9))
        self.bad((2, 0), (1, 0, (None, None)))
        self.bad((2, 1), (3, 0, (((1, 1, 0), (2, 1)), None)))
        self.bad((), (3, 0, (((1, 1, 0), (2, 1)),)))


class ThreadsOf(Case):

    def test_each_word(self):
        program = main(
            beside(send(3, 1), one(wait(), take(2, 4, send(4, 5))), STOP, new(1, beside(send(1, 2), new(2, send(2, 1))))),
            ((7, 6), one(send(6, 7), wait(new(0, call(1, 0))))), ((3,), new(0, new(1, take(0, 4, send(1, 3))))))
        for path, numbers, wanted in (
            ((1, 1, 0), (8, 4), (((1, 1, 0), (8, 4)),)),
            ((1, 1, 0), (8, 8), (((1, 1, 0), (8, 8)),)),
            ((1, 1, 0, 3), (), ()),
            ((1, 1, 1), (9, 0), (((1, 1, 1), (9, 0)),)),
            ((1, 1, 1, 1, 0), (), (((1, 1, 1, 1, 0), ()),)),
            ((1, 1, 1, 1, 1), (10 ** 20, 3), (((1, 1, 1, 1, 1), (10 ** 20, 3)),)),
            ((1, 1, 1, 1, 1, 3), (1, 0), (((1, 1, 1, 1, 1, 3), (1, 0)),)),
            ((1, 1, 2), (), ()),
            ((1, 1, 3), (0,), (((1, 1, 3, 2, 1, 0), (1, 0)), ((1, 1, 3, 2, 1, 1, 2), (1, 2)))),
            ((1, 1, 3), (1,), (((1, 1, 3, 2, 1, 0), (0, 1)), ((1, 1, 3, 2, 1, 1, 2), (0, 2)))),
            ((1, 1, 3), (5,), (((1, 1, 3, 2, 1, 0), (0, 5)), ((1, 1, 3, 2, 1, 1, 2), (0, 1)))),
            ((1, 1, 3, 2, 1, 1), (0,), (((1, 1, 3, 2, 1, 1, 2), (0, 1)),)),
            ((0, 0, 1), (4, 2), (((0, 0, 1), (4, 2)),)),
            ((0, 0, 1, 1, 1, 1), (), (((0, 1, 1, 2, 2), (1, 2, 0)),)),
            ((0, 0, 1, 1, 1, 1, 2), (1,), (((0, 1, 1, 2, 2), (0, 2, 1)),)),
            ((0, 1, 1), (0,), (((0, 1, 1, 2, 2), (1, 2, 0)),)),
            ((0, 1, 1, 2), (1, 1), (((0, 1, 1, 2, 2), (1, 0, 1)),)),
        ):
            self.assert_same(threads_of(program, path, numbers), wanted)
            self.assert_same(threads_of(program=program, path=path, numbers=numbers), wanted)

    def test_the_whole_main(self):
        program = main(beside(send(3, 1), new(0, send(0, 1)), new(0, take(0, 1, send(3, 1)))))
        self.assert_same(threads_of(program, (1,), (2, 0)),
                         (((1, 1, 0), (2, 0)), ((1, 1, 1, 2), (1, 2)), ((1, 1, 2, 2), (3, 0))))

    def test_a_new_that_stands_nowhere_takes_its_number_too(self):
        program = main(beside(new(0, wait()), new(0, send(0, 0)), new(1, new(1, send(1, 1)))))
        self.assert_same(threads_of(program, (1,), ()),
                         (((1, 1, 0, 2), ()), ((1, 1, 1, 2), (1,)), ((1, 1, 2, 2, 2), (3,))))

    def test_calls_with_names_of_the_part(self):
        program = main(new(4, call(0, 4, 2, 4)), ((8, 3, 5), send(3, 8, send(5, 5))))
        self.assert_same(threads_of(program, (1,), (0,)), (((0, 0, 1), (0, 1, 1)),))
        self.assert_same(threads_of(program, (1, 2), (6, 3)), (((0, 0, 1), (6, 3, 3)),))

    def test_no_bound(self):
        self.assertEqual(len(threads_of(main(threads(13)), (1,), ())), 13)
        self.assertEqual(len(threads_of(main(beside(ten_and(3), threads(4))), (1,), AS_IS)), 9)

    def test_no_such_path(self):
        for path in values_of_every_kind() + [(), (0,), (2,), (1, 1), (1, True, 0), [1], (1.0,), (1, 1, 9), (Odd(),)]:
            self.refused(BadIndex, {"value": path}, threads_of, WIDE, path, ())
            self.refused(BadIndex, {"value": path}, threads_of, WIDE, path, None)

    def test_no_numbers(self):
        for numbers in values_of_every_kind() + [
            (), (0,), (0, 1, 2), [0, 1], (True, 1), (0, False), (-1, 0), (0, 1.0), (0, None), (0, (1,)), "01", {0: 1, 1: 1},
        ]:
            self.refused(BadParameter, {"value": numbers}, threads_of, WIDE, (1, 1, 0), numbers)
        self.refused(BadParameter, {"value": (0,)}, threads_of, WIDE, (1, 1, 2), (0,))

    def test_the_order_of_the_errors(self):
        self.refused(BadPiece, {"path": (1,)}, threads_of, main(None), None, None)

    def test_start_is_settled_threads(self):
        for program in random_programs(25, 60):
            names = free_names(program)
            rows = threads_of(program, (1,), names)
            self.assertEqual(settled(program, rows, names), start(program))

    def test_parts_that_are_threads_are_their_own(self):
        for program in random_programs(26, 40):
            for path, part in parts_of(program):
                numbers = tuple(range(5, 5 + len(oracle.free(part))))
                rows = threads_of(program, path, numbers)
                if part[0] in ("send", "take", "wait", "alike", "unlike") or (part[0] == "one" and part[1]):
                    self.assertEqual(rows, ((path, numbers),))
                for where, row in rows:
                    self.assertEqual(len(row), len(oracle.free(part_at(program, where))))


class Settled(Case):

    def test_settled(self):
        a, b, c = (1, 1, 0), (1, 1, 1), (1, 1, 0, 3)
        for rows, known, wanted in (
            ((), (), ((0, 0, ()), ())),
            ((), (3, 1), ((0, 0, ()), ())),
            (((c, ()),), (3,), ((0, 0, ((c, ()),)), ())),
            (((a, (7, 3)),), (), ((0, 2, ((a, (0, 1)),)), ())),
            (((a, (7, 3)),), (7,), ((1, 1, ((a, (0, 1)),)), (7,))),
            (((a, (7, 3)),), (3,), ((1, 1, ((a, (1, 0)),)), (3,))),
            (((a, (7, 3)),), (3, 7), ((2, 0, ((a, (0, 1)),)), (7, 3))),
            (((a, (7, 7)),), (3, 7, 0), ((1, 0, ((a, (0, 0)),)), (7,))),
            (((b, (5,)), (a, (2, 5)), (a, (9, 2))), (9, 2), ((2, 1, ((b, (2,)), (a, (0, 2)), (a, (1, 0)))), (2, 9))),
            (((a, (4, 10 ** 20)), (b, (0,)), (a, (0, 4))), (0, 10 ** 20),
             ((2, 1, ((a, (2, 0)), (b, (1,)), (a, (1, 2)))), (10 ** 20, 0))),
        ):
            self.assert_same(settled(WIDE, rows, known), wanted)
            self.assert_same(settled(program=WIDE, threads=rows, known=known), wanted)

    def test_threads_stay_in_their_order(self):
        rows = (((1, 1, 1, 1, 1), ()), ((1, 1, 0, 3), ()), ((1, 1, 1, 1, 1), ()))
        self.assert_same(settled(WIDE, rows, ()), ((0, 0, rows), ()))

    def test_what_is_settled_is_a_standing(self):
        chance = random.Random(27)
        for _ in range(60):
            rows = tuple(((1, 1, 0), (chance.randrange(6), chance.randrange(6))) for _ in range(chance.randrange(6)))
            known = tuple(chance.sample(range(6), chance.randrange(6)))
            standing, keys = settled(WIDE, rows, known)
            self.assertEqual(need_standing(WIDE, standing), standing)
            self.assertTrue(set(keys) <= set(known))
            self.assertEqual(settled(WIDE, standing[2], tuple(range(standing[0]))), (standing, tuple(range(standing[0]))))

    def test_bounds(self):
        row = ((1, 1, 0, 3), ())
        self.assertEqual(settled(WIDE, (row,) * 8, ())[0], (0, 0, (row,) * 8))
        self.refused(TooGreat, {"most": 8}, settled, WIDE, (row,) * 9, ())
        pairs = tuple(((1, 1, 0), (number, number + 1)) for number in range(0, 12, 2))
        self.assertEqual(settled(WIDE, pairs, ())[0][:2], (0, 12))
        self.assertEqual(settled(WIDE, pairs, (3, 4))[0][:2], (2, 10))
        thirteen = pairs + (((1, 1, 1), (12,)),)
        self.refused(TooGreat, {"most": 12}, settled, WIDE, thirteen, ())
        self.refused(TooGreat, {"most": 12}, settled, WIDE, thirteen, tuple(range(13)))
        self.refused(TooGreat, {"most": 8}, settled, WIDE, thirteen + (row,) * 2, ())

    def test_no_threads(self):
        good = ((1, 1, 0), (0, 1))
        for value in values_of_every_kind():
            if not (isinstance(value, tuple) and not value):
                self.refused(BadParameter, {"value": value}, settled, WIDE, value, ())
                self.refused(BadParameter, {"value": value}, settled, WIDE, value, None)
                self.refused(BadParameter, {"value": (good, value)}, settled, WIDE, (good, value), ())
        for value in (
            [good], (((1, 1, 0), (0,)),), (((1, 1, 0), (0, -1)),), (((1, 1, 0), (0, True)),), (((1, 1, 2), ()),), (((1,), (0, 1)),),
            (((1, 1, 0), [0, 1]),), (([1, 1, 0], (0, 1)),), (good + ((),),), (list(good),), (((1, True, 0), (0, 1)),),
            (((1, 1, 3), ()),), (((), ()),), (((1, 1, 0), (0, 1, 2)),), (good,) * 9 + (None,),
        ):
            self.refused(BadParameter, {"value": value}, settled, WIDE, value, ())

    def test_no_known(self):
        for value in values_of_every_kind() + [3, [0], (0, 0), (1, 2, 1), (-1,), (True,), (0, False), (1.0,), ((1,),), (None,), (0, 0.0)]:
            if not (isinstance(value, tuple) and not value):
                self.refused(BadParameter, {"value": value}, settled, WIDE, (), value)
                self.refused(BadParameter, {"value": value}, settled, WIDE, (((1, 1, 0, 3), ()),) * 9, value)

    def test_the_order_of_the_errors(self):
        self.refused(BadPiece, {"path": (1,)}, settled, main(None), None, None)
        self.refused(BadParameter, {"value": None}, settled, WIDE, None, 5)


class Waits(Case):

    def test_results_share_nothing(self):
        program = main(waits(3))
        standings, _ = graph(program)
        self.assertEqual(standings, tuple((0, 0, (((1,) + (1,) * many, ()),)) for many in range(3)) + ((0, 0, ()),))
