"""Point 18: the graph, the order in which standings are found, its bounds."""

import random

from passednames.errors import BadGiven, BadPiece, BadProgram, TooGreat
from passednames.graphs import graph, how_many
from passednames.moving import moves
from passednames.names import AS_IS
from passednames.standings import start
from tests import oracle
from tests.samples import (Case, STOP, beside, call, main, new, one, random_programs, send, take, values_of_every_kind,
                           wait, waits)

WAIT = ("wait",)
FOUR = beside(wait(), wait(), wait(), wait())
MANY = beside(FOUR, FOUR, wait())
ALL_TEN = send(0, 1, send(2, 3, send(4, 5, send(6, 7, send(8, 9)))))
NAMES = new(0, new(1, new(2, send(0, 1, send(2, 2)))))
SIXTY = beside(waits(4), waits(3), waits(2))


class Graph(Case):

    def gives(self, program, standings, rows, given=AS_IS):
        self.assert_same(graph(program, given), (standings, rows))
        self.assert_same(graph(program=program, given=given), (standings, rows))
        self.assert_same(how_many(program, given), len(standings))
        self.assert_same(how_many(program=program, given=given), len(standings))

    def test_one_standing(self):
        self.gives(main(STOP), ((0, 0, ()),), ((),))
        self.gives(main(new(1, send(1, 1))), ((0, 1, (((1, 2), (0,)),)),), ((),))
        self.gives(main(call(0), ((), wait(call(0)))), ((0, 0, (((0, 0, 1), ()),)),), (((WAIT, ((0, ()),)),),))

    def test_given_is_as_is(self):
        program = main(send(3, 1))
        self.assertEqual(graph(program), graph(program, AS_IS))
        self.assertEqual(how_many(program), 2)

    def test_a_row(self):
        self.gives(main(send(3, 1, take(1, 2))),
                   ((2, 0, (((1,), (0, 1)),)), (1, 0, (((1, 3), (0,)),)), (0, 0, ())),
                   (((("send", 1, 0), ((1, (0,)),)),), ((("take", 0), ((2, ()), (2, ()))),), ()))

    def test_given(self):
        program = main(beside(send(3, 1), take(2, 4)))
        first = ((1, 0, (((1, 1, 0), (0, 0)), ((1, 1, 1), (0,)))), (1, 0, (((1, 1, 1), (0,)),)), (1, 0, (((1, 1, 0), (0, 0)),)),
                 (0, 0, ()))
        self.gives(
            program, first,
            (((("send", 0, 0), ((1, (0,)),)), (("take", 0), ((2, (0,)), (2, (0,)))), (WAIT, ((3, ()),))),
             ((("take", 0), ((3, ()), (3, ()))),), ((("send", 0, 0), ((3, ()),)),), ()),
            given=(7,) * 10)
        self.assertEqual(how_many(program), 4)

    def test_the_order_in_which_they_are_found(self):
        # From the first: open, then the two rests of the take (they are unlike), then the wait.
        program = main(new(9, one(wait(waits(1)), take(3, 1, send(1, 3)), send(3, 9, send(9, 9)))))
        self.gives(
            program,
            ((1, 1, (((1, 2), (0, 1)),)),
             (1, 0, (((1, 2, 1, 2, 3), (0,)),)), (1, 0, (((1, 2, 1, 1, 3), (0, 0)),)), (2, 0, (((1, 2, 1, 1, 3), (0, 1)),)),
             (0, 0, (((1, 2, 1, 0, 1), ()),)), (0, 0, ())),
            (((("open", 0), ((1, (1,)),)), (("take", 0), ((2, (0,)), (3, (1, 0)))), (WAIT, ((4, ()),))),
             ((("send", 0, 0), ((5, ()),)),), ((("send", 0, 0), ((5, ()),)),), ((("send", 0, 1), ((5, ()),)),),
             ((WAIT, ((5, ()),)),), ()))

    def test_row_by_row_before_going_deeper(self):
        program = main(one(wait(wait(wait())), send(0, 1, wait(send(1, 0)))))
        self.assertEqual([threads and threads[0][0] for _, _, threads in graph(program)[0]],
                         [(1,), (1, 1, 1, 3), (1, 1, 0, 1), (1, 1, 1, 3, 1), (1, 1, 0, 1, 1), ()])

    def test_moves_stay_in_their_order(self):
        # The move to the standing found first comes last in the row of the second standing.
        program = main(call(0, 1, 2), ((0, 1), one(send(0, 1, call(0, 0, 1)), wait(send(0, 1, call(0, 1, 0))))))
        standings, rows = graph(program)
        for standing, row in zip(standings, rows):
            self.assertEqual(tuple((action, tuple((standings[index], keys) for index, keys in rests)) for action, rests in row),
                             moves(program, standing))

    def test_definitions_that_call_each_other(self):
        program = main(
            call(0, 4, 5), ((0, 1), send(0, 1, call(1, 1, 0))), ((2, 3), one(take(2, 0, call(0, 2, 0)), wait(call(1, 3, 2)))))
        self.assertEqual(graph(program), oracle.graph(program, AS_IS))
        self.assertEqual(how_many(program), 4)

    def test_other_programs(self):
        chance = random.Random(50)
        for program in random_programs(51, 150):
            for given in (AS_IS, tuple(chance.randrange(3) for _ in range(10))):
                found = oracle.outcome(graph, program, given)
                self.assertEqual(found, oracle.outcome(oracle.graph, program, given))
                if found[0] != "too great":
                    self.assertEqual(found[0][0], start(program, given)[0])
                    self.assertEqual(how_many(program, given), len(found[0]))
                    self.assertEqual(len(found[0]), len(set(found[0])))
                    self.assertEqual(len(found[0]), len(found[1]))


class Bounds(Case):

    def refuse(self, most, program, given=AS_IS):
        for asked in (graph, how_many):
            self.refused(TooGreat, {"most": most}, asked, program, given)

    def test_sixty_and_sixty_one(self):
        self.assertEqual(how_many(main(SIXTY)), 60)
        self.assertEqual(len(graph(main(SIXTY))[1]), 60)
        self.refuse(60, main(wait(SIXTY)))
        self.refuse(60, main(beside(SIXTY, wait())))

    def test_without_end(self):
        self.refuse(60, main(beside(*[call(0)] * 4), ((), one(wait(waits(2, call(0))), wait(wait(call(0)))))))

    def test_the_first_standing(self):
        self.refuse(8, main(MANY))
        self.refuse(12, main(beside(ALL_TEN, NAMES)))
        self.refuse(8, main(beside(MANY, ALL_TEN, NAMES)))

    def test_standings_further_on(self):
        self.refuse(8, main(waits(4, MANY)))
        self.refuse(12, main(beside(ALL_TEN, waits(4, NAMES))))
        self.refuse(8, main(one(send(0, 1, waits(2)), wait(wait(MANY)))))

    def test_standings_in_turn(self):
        # Both are too great behind two waits; which one is found first decides.
        self.refuse(12, main(beside(ALL_TEN, one(wait(wait(NAMES)), wait(wait(MANY))))))
        self.refuse(8, main(beside(ALL_TEN, one(wait(wait(MANY)), wait(wait(NAMES))))))
        # One behind two waits, the other behind three: the nearer one.
        self.refuse(8, main(beside(ALL_TEN, one(waits(3, NAMES), waits(2, MANY)))))
        self.refuse(12, main(beside(ALL_TEN, one(waits(3, MANY), waits(2, NAMES)))))

    def test_moves_ahead_of_the_sixty_first(self):
        self.refuse(8, main(one(wait(wait(beside(SIXTY, wait()))), waits(3, MANY))))
        self.refuse(60, main(one(wait(beside(SIXTY, wait())), waits(7, MANY))))

    def test_errors_of_parameters(self):
        for value in values_of_every_kind() + [AS_IS[:9], list(AS_IS), (10,) * 10]:
            for asked in (graph, how_many):
                self.refused(BadGiven, {"value": value}, asked, main(MANY), value)
                self.refused(BadPiece, {"path": (1,)}, asked, main(None), value)
                if not (isinstance(value, tuple) and len(value) == 2):
                    self.refused(BadProgram, {"place": ()}, asked, value)
