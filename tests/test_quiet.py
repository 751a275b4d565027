"""Points 40 to 42: papers of weak and rooted likeness, idle waits, marks."""

import random

from passednames.errors import BadGiven, BadPiece, BadProgram, TooGreat
from passednames.graphs import graph
from passednames.names import AS_IS
from passednames.quiet import are_marks, greatest_marks, idle_waits, is_rooted_paper, is_weak_paper
from passednames.silent import alike_rooted, alike_weak, rooted_paper, weak_paper, weak_triples
from tests import likely, samples
from tests.samples import (Case, HOLE, STOP, Odd, beside, call, circling_programs, main, near_programs, new, one,
                           random_programs, send, take, take_families, unlike, values_of_every_kind, wait, waits)
from tests.test_likeness import JOINED, NINE, SIXTY, pairs_of_programs, ring
from tests.test_silent import chain, is_small

BOTH = (is_weak_paper, is_rooted_paper)


def waits_in(program, given=AS_IS):
    """All pairs (I, M) of waits."""
    return [(index, move) for index, row in enumerate(graph(program, given)[1])
            for move, (action, _) in enumerate(row) if action == ("wait",)]


class Papers(Case):

    def test_weak_papers(self):
        left, right = main(wait(send(3, 4))), main(send(3, 4))
        paper = weak_paper(left, right)
        self.assertEqual(paper, ((0, 0, ((0, 0), (1, 1))), (1, 0, ((0, 0), (1, 1))), (2, 1, ())))
        self.assertIs(is_weak_paper(left, right, paper), True)
        self.assertIs(is_weak_paper(one=left, other=right, paper=paper, given=AS_IS), True)
        self.assertIs(is_weak_paper(left, right, paper, JOINED), True)
        self.assertIs(is_weak_paper(left, right, paper, (3,) * 10), False)
        self.assertIs(is_weak_paper(left, left, paper), False)
        self.assertIs(is_rooted_paper(left, right, paper), False)

    def test_rooted_papers(self):
        left, right = main(wait(send(3, 4))), main(waits(2, send(3, 4)))
        paper = rooted_paper(left, right)
        self.assertIs(is_rooted_paper(one=left, other=right, paper=paper, given=AS_IS), True)
        self.assertEqual(paper[0][:2], (0, 0))
        # The first triple itself need not stand in it, but each wait of it needs a wait.
        self.assertIs(is_rooted_paper(left, right, paper[1:]), True)
        self.assertIs(is_weak_paper(left, right, paper[1:]), False)
        needed = tuple(triple for triple in paper if triple[0] > 0 and triple[1] > 0)
        self.assertEqual(len(needed), 3)
        self.assertIs(is_rooted_paper(left, right, needed), True)
        self.assertIs(is_weak_paper(left, right, needed), False)
        self.assertIs(is_rooted_paper(left, right, needed[1:]), False)
        self.assertIs(is_rooted_paper(main(STOP), main(STOP), ()), True)
        self.assertIs(is_weak_paper(main(STOP), main(STOP), ()), False)
        self.assertIs(is_rooted_paper(main(STOP), main(STOP), ((0, 0, ()),)), True)
        self.assertIs(is_rooted_paper(main(STOP), main(wait()), ()), False)
        self.assertIs(is_rooted_paper(main(STOP), main(wait()), ((0, 0, ()), (0, 1, ()))), False)
        self.assertIs(is_weak_paper(main(STOP), main(wait()), ((0, 0, ()), (0, 1, ()))), True)

    def test_bent_papers(self):
        left, right = main(take(3, 1, wait(send(1, 3)))), main(take(3, 2, send(2, 3)))
        paper = weak_paper(left, right)
        self.assertTrue(alike_rooted(left, right))
        self.assertIn((0, 0, ((0, 0),)), paper)
        for asked in BOTH:
            for good in (paper[::-1], paper * 3, paper + paper[1:2]):
                self.assertIs(asked(left, right, good), True)
        bent = [list(paper), (paper,), paper + (None,), paper + ((0, 0),), paper + ((0, 0, (), ()),), paper + ((6, 0, ()),),
                paper + ((0, 6, ()),), paper + ((-1, 0, ()),), paper + ([1, 1, ()],), paper + ((1, 1, []),),
                paper + ((1, 1, ((0, 0), (0, 0))),), paper + ((1, 1, ((1, 0),)),), paper + ((1, 1, ((0, False),)),),
                paper + ((True, 1, ()),), paper + ((1, True, ()),), paper + ((Odd(), 1, ()),), paper + ((0, 0, ()),),
                paper + (0,), paper + ("",), tuple((j, i, m) for i, j, m in paper),
                tuple([list(triple) for triple in paper]), tuple((True if i == 1 else i, j, m) for i, j, m in paper)]
        for asked in BOTH:
            for value in bent + [value for value in values_of_every_kind() if value is not None]:
                self.assertIs(asked(left, right, value), False, value)
            self.assertIs(asked(left, right, None), False)
            self.assertIs(asked(left, right, ()), False)

    def test_one_thing_left_out(self):
        left, right = main(send(3, 4, send(4, 3))), main(send(3, 4, send(4, 3)))
        paper = weak_paper(left, right)
        self.assertEqual(len(paper), 3)
        for place in range(3):
            rest = paper[:place] + paper[place + 1:]
            self.assertIs(is_weak_paper(left, right, rest), False)
            self.assertIs(is_rooted_paper(left, right, rest), place == 0)

    def test_1500_and_1501_things(self):
        left, right = main(wait(send(3, 4))), main(waits(2, send(3, 4)))
        paper = rooted_paper(left, right)
        long = (paper * 400)[:1500]
        for asked in BOTH:
            self.assertIs(asked(left, right, long), True)
            self.assertIs(asked(left, right, long + paper[:1]), False)

    def test_nothing_is_met(self):
        # Each of 60 standings with each of 60 would be 3,600 triples; a paper needs few of them.
        program = main(SIXTY)
        same = tuple((place, place, ()) for place in range(60))
        self.refused(TooGreat, {"most": 1500}, alike_weak, program, program)
        for asked in BOTH:
            self.assertIs(asked(program, program, same), True)
            self.assertIs(asked(program, program, same[:-1]), False)
            self.assertIs(asked(program, program, ()), False)

    def test_exactly_if_alike(self):
        kinds = set()
        for one_program, other, given in pairs_of_programs():
            if len(graph(one_program, given)[0]) * len(graph(other, given)[0]) > 150:
                continue
            weak, rooted = alike_weak(one_program, other, given), alike_rooted(one_program, other, given)
            met = weak_triples(one_program, other, given)
            kinds.add((weak, rooted))
            if weak:
                met = weak_paper(one_program, other, given)
            self.assertIs(is_weak_paper(one_program, other, met, given), weak)
            self.assertIs(is_rooted_paper(one_program, other, met, given), rooted)
        self.assertEqual(kinds, {(False, False), (True, False), (True, True)})

    def test_subsets_against_the_oracle(self):
        chance = random.Random(401)
        found = set()
        for one_program, other in near_programs(402, 60, 3):
            if not is_small(one_program, other, most=6) or not alike_weak(one_program, other):
                continue
            met = weak_paper(one_program, other)
            sides = likely.Told(one_program, AS_IS), likely.Told(other, AS_IS)
            first = likely.first(*sides)
            for _ in range(12):
                paper = tuple(triple for triple in met if chance.randrange(5))
                held = likely.read(paper)
                closed = all(likely.answered(*sides, triple, "weak", held) for triple in held)
                weak = closed and first in held
                rooted = closed and likely.answered(*sides, first, "weak", held, True)
                found.add((weak, rooted))
                self.assertIs(is_weak_paper(one_program, other, paper), weak)
                self.assertIs(is_rooted_paper(one_program, other, paper), rooted)
        self.assertEqual(found, {(True, True), (True, False), (False, True), (False, False)})

    def test_the_order_of_errors(self):
        great = main(beside(SIXTY, wait()))
        for asked in BOTH:
            self.refused(BadPiece, {"path": (1,)}, asked, main(HOLE), None, None, None)
            self.refused(BadProgram, {"place": ()}, asked, great, None, None, None)
            self.refused(BadGiven, {"value": None}, asked, great, great, None, None)
            self.refused(TooGreat, {"most": 60}, asked, great, main(NINE), None)
            self.refused(TooGreat, {"most": 8}, asked, main(NINE), great, None)
            for value in values_of_every_kind():
                self.refused(BadGiven, {"value": value}, asked, main(STOP), main(STOP), (), value)
                with self.assertRaises((BadProgram, BadPiece, TooGreat)):
                    asked(main(STOP), value, ())


class Idle(Case):

    def gives(self, program, told, given=AS_IS):
        self.assert_same(idle_waits(program, given), told)
        self.assert_same(idle_waits(program=program, given=given), told)
        if given == AS_IS:
            self.assert_same(idle_waits(program), told)

    def test_idle_waits(self):
        self.gives(main(STOP), ())
        self.gives(main(send(0, 1)), ())
        self.gives(main(wait(send(0, 1))), ((0, 0),))
        self.gives(main(waits(3)), ((0, 0), (1, 0), (2, 0)))
        # It decides that nothing is sent any more.
        self.gives(main(one(wait(), send(0, 1))), ())
        self.gives(main(one(wait(wait(send(0, 1))), send(0, 1))), ((0, 1), (2, 0)))
        self.gives(main(beside(wait(), send(0, 1))), ((0, 1), (1, 0)))
        self.gives(main(call(0), ((), wait(call(0)))), ((0, 0),))

    def test_names(self):
        turning = ((0, 1), one(wait(call(0, 1, 0)), send(0, 1)))
        # Behind the wait the same is sent, but with exchanged names.
        self.gives(main(call(0, 3, 4), turning), ((0, 1),))
        fixed = ((0, 1), one(wait(send(1, 0)), send(0, 1)))
        self.gives(main(call(0, 3, 4), fixed), ())
        self.gives(main(call(0, 3, 4), fixed), ((0, 1),), given=JOINED[:4] + JOINED[:1] + JOINED[5:])
        # A wait that forgets a name that is of no use, and one that forgets a name that matters.
        self.gives(main(one(wait(take(3, 1)), samples.alike(4, 4, take(3, 1)))), ((0, 1),))
        self.gives(main(one(wait(take(3, 1)), take(3, 1, samples.alike(1, 4, send(1, 1))))), ())

    def test_two_that_meet(self):
        self.gives(main(new(0, beside(send(0, 1, send(2, 2)), take(0, 3, send(3, 2))))), ((0, 0),))
        self.gives(main(beside(send(0, 1), take(0, 3))), ())

    def test_against_the_oracle(self):
        kinds = set()
        for program in random_programs(411, 50, 3) + circling_programs(412, 25) + [each for pair in near_programs(413, 20, 3) for each in pair]:
            if not is_small(program, most=8):
                continue
            side = likely.Told(program, AS_IS)
            told = []
            for index, move in waits_in(program):
                (behind, keys), = side.rows[index][move][1]
                start = (index, behind, frozenset((key, number) for number, key in enumerate(keys)))
                if start in likely.rounds(side, side, "weak", start)[0]:
                    told.append((index, move))
            self.assertEqual(idle_waits(program), tuple(told))
            kinds |= {wait_ in told for wait_ in waits_in(program)}
        self.assertEqual(kinds, {True, False})

    def test_triples_wait_by_wait(self):
        # 39 standings: the most triples are met from the first wait, 39 * 38.
        self.assertEqual(len(idle_waits(chain(39, STOP))), 38)
        self.refused(TooGreat, {"most": 1500}, idle_waits, chain(40, STOP))

    def test_the_order_of_errors(self):
        great = main(beside(SIXTY, wait()))
        for asked in (idle_waits, greatest_marks):
            self.refused(BadPiece, {"path": (1,)}, asked, main(HOLE), None)
            self.refused(BadGiven, {"value": None}, asked, great, None)
            self.refused(TooGreat, {"most": 60}, asked, great)
            self.refused(TooGreat, {"most": 8}, asked, main(NINE))
            for value in values_of_every_kind():
                self.refused(BadGiven, {"value": value}, asked, main(STOP), value)
                with self.assertRaises((BadProgram, BadPiece, TooGreat)):
                    asked(value, None)


class Marks(Case):

    def greatest(self, program, told, given=AS_IS):
        self.assert_same(greatest_marks(program, given), told)
        self.assert_same(greatest_marks(program=program, given=given), told)
        self.assertIs(are_marks(program=program, value=told, given=given), True)
        self.assertLessEqual(set(told), set(idle_waits(program, given)))

    def test_greatest_marks(self):
        self.greatest(main(STOP), ())
        self.greatest(main(send(0, 1)), ())
        self.greatest(main(waits(3)), ((0, 0), (1, 0), (2, 0)))
        self.greatest(main(beside(wait(), send(0, 1))), ((0, 1), (1, 0)))
        self.greatest(main(one(wait(), send(0, 1))), ())
        self.greatest(main(one(wait(send(0, 1)), send(0, 1))), ((0, 1),))
        self.greatest(main(call(0), ((), wait(call(0)))), ((0, 0),))

    def test_an_idle_wait_that_is_in_no_marks(self):
        program = main(one(wait(wait(send(0, 1))), send(0, 1)))
        self.assertEqual(idle_waits(program), ((0, 1), (2, 0)))
        self.greatest(program, ((2, 0),))
        self.assertIs(are_marks(program, ((0, 1),)), False)
        self.assertIs(are_marks(program, ((0, 1), (2, 0))), False)

    def test_marks_that_need_others(self):
        program = main(beside(wait(), send(0, 1)))
        self.assertEqual(graph(program)[1], (
            ((("send", 0, 1), ((1, ()),)), (("wait",), ((2, (0, 1)),))), ((("wait",), ((3, ()),)),),
            ((("send", 0, 1), ((3, ()),)),), ()))
        for value, good in (((), True), (((0, 1),), False), (((1, 0),), True), (((1, 0), (0, 1)), True),
                            (((0, 1), (1, 0), (1, 0), (0, 1)), True), (((0, 1), (0, 1)), False), (((0, 0),), False),
                            (((2, 0),), False), (((1, 1),), False), (((0, 2),), False), (((4, 0),), False),
                            (((-1, 0),), False), (((0, -1),), False), (((1, False),), False), (((True, 0),), False),
                            ([(1, 0)], False), (([1, 0],), False), (((1, 0, 0),), False), (((1,),), False), ((1, 0), False),
                            ((None,), False), (((1, 0.0),), False), (((1, Odd()),), False)):
            self.assertIs(are_marks(program, value), good, value)
        for value in values_of_every_kind():
            self.assertIs(are_marks(program, value), False)

    def test_rounds_about_takes_and_opens(self):
        for other in (take(0, 1, send(1, 1)), new(1, send(0, 1, send(1, 1))), take(0, 1, take(1, 2, send(2, 1)))):
            program = main(beside(wait(), other))
            marks = greatest_marks(program)
            self.assertEqual(list(marks), waits_in(program))
            for left_out in range(len(marks)):
                value = marks[:left_out] + marks[left_out + 1:]
                self.assertIs(are_marks(program, value), left_out == 0, value)

    def test_a_forgotten_name_is_taken(self):
        # The wait forgets 5; a take of 5 ahead of it is the take of a stranger behind it.
        program = main(beside(samples.alike(5, 5, wait()), take(0, 1, send(0, 1))))
        marks = greatest_marks(program)
        self.assertEqual(list(marks), waits_in(program))
        self.assertGreater(len(marks), 3)
        self.assertIs(are_marks(program, marks), True)
        for place, mark in enumerate(marks):
            if mark[0] != 0:
                self.assertIs(are_marks(program, marks[:place] + marks[place + 1:]), False)

    def test_names_must_come_the_same_ways(self):
        # Behind the wait, taking goes on with the names exchanged: to the same standings, not with the same names.
        straight = main(call(0, 3, 4), ((0, 1), one(wait(call(1, 0, 1)), take(0, 2, call(2, 0, 1)))),
                        ((0, 1), take(0, 2, call(2, 0, 1))), ((0, 1), send(0, 1)))
        crossed = (straight[0][:1] + (((0, 1), take(0, 2, call(2, 1, 0))),) + straight[0][2:], straight[1])
        self.assertEqual([len(graph(program)[0]) for program in (straight, crossed)], [4, 4])
        self.greatest(straight, ((0, 1),))
        self.greatest(crossed, ())

    def test_against_the_oracle(self):
        count = 0
        chance = random.Random(421)
        programs = random_programs(422, 60, 4) + circling_programs(423, 60)
        programs += [program for pair in take_families(424, 10) for program in pair]
        for program in programs:
            given = chance.choice((AS_IS, JOINED))
            if not is_small(program, given=given, most=20) or len(waits_in(program, given)) > 7:
                continue
            side = likely.Told(program, given)
            told, many = likely.greatest_marks(side)
            self.assertEqual(greatest_marks(program, given), told)
            count += many > len(told) > 0
            for _ in range(6):
                value = tuple(chance.choices(waits_in(program, given), k=chance.randrange(5))) if many else ()
                good = all(likely.goes_round(side, set(value), each) for each in value)
                self.assertIs(are_marks(program, value, given), good)
        self.assertGreater(count, 3)

    def test_marked_waits_are_idle(self):
        for program in random_programs(425, 50, 4) + circling_programs(426, 30):
            if is_small(program, most=12):
                marks = greatest_marks(program)
                self.assertIs(are_marks(program, marks), True)
                self.assertLessEqual(set(marks), set(idle_waits(program)))

    def test_marks_have_no_bound_of_triples(self):
        self.assertEqual(len(greatest_marks(chain(50, STOP))), 49)
        self.assertIs(are_marks(main(SIXTY), greatest_marks(main(SIXTY))), True)
        self.assertEqual(len(greatest_marks(main(SIXTY))), len(waits_in(main(SIXTY))))
        self.assertEqual(greatest_marks(ring(40, call(0))), tuple((place, 0) for place in range(40)))

    def test_the_order_of_errors(self):
        great = main(beside(SIXTY, wait()))
        self.refused(BadPiece, {"path": (1,)}, are_marks, main(HOLE), None, None)
        self.refused(BadGiven, {"value": None}, are_marks, great, None, None)
        self.refused(TooGreat, {"most": 60}, are_marks, great, None)
        for value in values_of_every_kind():
            self.refused(BadGiven, {"value": value}, are_marks, main(STOP), None, value)
        self.assertIs(are_marks(main(STOP), None), False)
        self.assertIs(are_marks(main(unlike(0, 1, wait())), ((0, 0),), (0,) * 10), False)
        self.assertIs(are_marks(main(unlike(0, 1, wait())), ((0, 0),)), True)
