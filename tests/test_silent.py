"""Points 37 to 40: weak moves, weak and rooted likeness, the papers that are made of them."""

import itertools
import random

from passednames.contexts import beside_of
from passednames.errors import BadGiven, BadPiece, BadProgram, NoMove, TooGreat, Unlike
from passednames.graphs import graph
from passednames.likeness import alike
from passednames.names import AS_IS
from passednames.programs import renamed
from passednames.silent import (alike_rooted, alike_weak, rooted_paper, rounds_weak, weak_moves, weak_paper,
                                weak_triples)
from tests import likely, oracle, samples
from tests.samples import (Case, HOLE, STOP, beside, call, circling_programs, main, near_programs, new, one, random_piece,
                           random_programs, send, take, unlike, values_of_every_kind, wait, waits)
from tests.test_likeness import JOINED, NINE, SIXTY, THREE_TAKES, TWO_TAKES, one_telling, pairs_of_programs, ring

P = send(0, 1, take(1, 2, send(2, 1)))
PAIRED = (weak_triples, alike_weak, rounds_weak, alike_rooted, weak_paper, rooted_paper)


def is_small(*programs, given=AS_IS, most=60):
    """Whether these programs have graphs of at most so many standings."""
    outcomes = [oracle.outcome(oracle.graph, program, given) for program in programs]
    return all(outcome[0] != "too great" and len(outcome[0]) <= most for outcome in outcomes)


def chain(many, last):
    """A program of so many standings, up to 50, that wait one behind the other up to the piece last."""
    lengths = []
    left = many - 1
    while left > 0 or not lengths:
        lengths.append(min(10, left))
        left -= lengths[-1]
    definitions = []
    for number, length in enumerate(lengths[1:]):
        definitions.append(((), waits(length, call(number + 1) if number + 2 < len(lengths) else last)))
    return tuple(definitions), waits(lengths[0], call(0) if definitions else last)


class WeakMoves(Case):

    def gives(self, program, told, given=AS_IS):
        self.assert_same(weak_moves(program, given), told)
        self.assert_same(weak_moves(program=program, given=given), told)
        if given == AS_IS:
            self.assert_same(weak_moves(program), told)

    def test_waits_alone(self):
        self.gives(main(STOP), (((("wait",), ((0, ()),)),),))
        self.gives(main(waits(2)), (((("wait",), ((0, ()), (1, ()), (2, ()))),), ((("wait",), ((1, ()), (2, ()))),),
                                    ((("wait",), ((2, ()),)),)))
        self.gives(main(call(0), ((), wait(call(0)))), (((("wait",), ((0, ()),)),),))

    def test_sends_ahead_of_waits_and_behind_them(self):
        self.gives(main(wait(send(4, 3, wait()))), (
            ((("send", 1, 0), ((2, ()), (3, ()))), (("wait",), ((0, (0, 1)), (1, (0, 1))))),
            ((("send", 1, 0), ((2, ()), (3, ()))), (("wait",), ((1, (0, 1)),))),
            ((("wait",), ((2, ()), (3, ()))),),
            ((("wait",), ((3, ()),)),)))

    def test_what_is_opened_is_known_in_keys(self):
        opening = wait(new(1, send(0, 1, wait(send(1, 1)))))
        self.gives(main(opening), (
            ((("open", 0), ((2, (1,)), (3, (1,)))), (("wait",), ((0, (0,)), (1, (0,))))),
            ((("open", 0), ((2, (1,)), (3, (1,)))), (("wait",), ((1, (0,)),))),
            ((("send", 0, 0), ((4, ()),)), (("wait",), ((2, (0,)), (3, (0,))))),
            ((("send", 0, 0), ((4, ()),)), (("wait",), ((3, (0,)),))),
            ((("wait",), ((4, ()),)),)))

    def test_a_name_that_a_wait_forgets_is_taken_as_a_stranger(self):
        # Standings: 0 knows 0 and 5; 1 nothing; 2 takes and has forgotten 5; 3 sends 0 on 0; 4 sends another name.
        program = main(one(wait(take(0, 1, send(0, 1))), send(5, 5)))
        self.gives(program, (
            ((("send", 1, 1), ((1, ()),)),
             (("take", 0), (((3, (0,)),), ((4, (0, 1)),), ((4, (0, 2)),))),
             (("wait",), ((0, (0, 1)), (2, (0,))))),
            ((("wait",), ((1, ()),)),),
            ((("take", 0), (((3, (0,)),), ((4, (0, 1)),))), (("wait",), ((2, (0,)),))),
            ((("send", 0, 0), ((1, ()),)), (("wait",), ((3, (0,)),))),
            ((("send", 0, 1), ((1, ()),)), (("wait",), ((4, (0, 1)),)))))

    def test_names_that_waits_exchange(self):
        turning = ((0, 1), one(wait(call(0, 1, 0)), send(0, 1)))
        self.gives(main(call(0, 3, 4), turning), (
            ((("send", 0, 1), ((1, ()),)), (("send", 1, 0), ((1, ()),)), (("wait",), ((0, (0, 1)), (0, (1, 0))))),
            ((("wait",), ((1, ()),)),)))

    def test_takes_in_several_ways(self):
        program = main(one(take(0, 1, send(1, 1)), wait(take(0, 1, wait(send(1, 0))))))
        told = weak_moves(program)[0]
        self.assertEqual([action for action, _ in told], [("take", 0), ("wait",)])
        self.assertEqual([len(pairs) for pairs in told[0][1]], [3, 3])

    def test_against_the_oracle(self):
        chance = random.Random(371)
        for program in random_programs(372, 60, 4) + circling_programs(373, 50) + random_programs(374, 20, 6):
            given = chance.choice((AS_IS, JOINED))
            if is_small(program, given=given, most=25):
                self.assertEqual(weak_moves(program, given), likely.Told(program, given).weak_moves())

    def test_the_moves_of_the_graph_are_among_them(self):
        for program in random_programs(375, 40, 4):
            if not is_small(program):
                continue
            for row, weak in zip(graph(program)[1], weak_moves(program)):
                table = dict(weak)
                self.assertEqual(len(table), len(weak))
                for action, rests in row:
                    if action[0] == "take":
                        self.assertEqual(len(rests), len(table[action]))
                        self.assertTrue(all(rest in pairs for rest, pairs in zip(rests, table[action])))
                    else:
                        self.assertIn(rests[0], table[action])

    def test_the_order_of_errors(self):
        great = main(beside(SIXTY, wait()))
        self.refused(BadPiece, {"path": (1,)}, weak_moves, main(HOLE), None)
        self.refused(BadGiven, {"value": None}, weak_moves, great, None)
        self.refused(TooGreat, {"most": 60}, weak_moves, great)
        self.refused(TooGreat, {"most": 8}, weak_moves, main(NINE))
        self.assertEqual(len(weak_moves(main(SIXTY))), 60)
        for value in values_of_every_kind():
            self.refused(BadGiven, {"value": value}, weak_moves, main(STOP), value)
            with self.assertRaises((BadProgram, BadPiece, TooGreat)):
                weak_moves(value, None)


class Weakly(Case):

    def are(self, one_program, other, weak, rooted, given=AS_IS):
        """weak: the round in which they part, None if they are weakly alike."""
        for first, second in ((one_program, other), (other, one_program)):
            self.assertIs(alike_weak(first, second, given), weak is None)
            self.assertIs(alike_rooted(first, second, given), rooted)
            self.assertIs(alike_weak(one=first, other=second, given=given), weak is None)
            self.assertIs(alike_rooted(one=first, other=second, given=given), rooted)
            if weak is None:
                self.refused(NoMove, {}, rounds_weak, first, second, given)
                paper = weak_paper(first, second, given)
                self.assertLessEqual(set(paper), set(weak_triples(first, second, given)))
                if rooted:
                    self.assert_same(rooted_paper(first, second, given), paper)
                else:
                    self.refused(Unlike, {"value": 0}, rooted_paper, first, second, given)
            else:
                self.assert_same(rounds_weak(one=first, other=second, given=given), weak)
                self.refused(Unlike, {"value": weak}, weak_paper, first, second, given)
                self.refused(Unlike, {"value": weak}, rooted_paper, first, second, given)

    def test_waits(self):
        for many, more in itertools.combinations(range(4), 2):
            self.are(main(waits(many)), main(waits(more)), None, many > 0)
        for many in range(4):
            self.are(main(waits(many)), main(waits(many)), None, True)
        self.are(main(call(0), ((), wait(call(0)))), main(STOP), None, False)
        self.are(main(call(0), ((), wait(call(0)))), main(wait()), None, True)

    def test_a_wait_ahead(self):
        self.are(main(wait(P)), main(P), None, False)
        self.are(main(wait(P)), main(waits(3, P)), None, True)
        self.are(main(send(3, 4, wait(P))), main(send(3, 4, P)), None, True)
        self.are(main(take(3, 0, wait(P))), main(take(3, 0, P)), None, True)
        self.are(main(wait(wait(P))), main(wait(P)), None, True)
        self.are(main(one(wait(P), send(5, 5))), main(one(P, send(5, 5))), 2, False)
        self.are(main(one(P, wait(P))), main(P), None, False)
        self.are(main(one(P, wait(P))), main(wait(P)), None, True)

    def test_rounds(self):
        self.are(main(send(0, 1)), main(STOP), 1, False)
        self.are(main(wait(send(0, 1))), main(STOP), 2, False)
        self.are(main(send(0, 1, send(0, 1))), main(send(0, 1, wait())), 2, False)
        self.are(main(send(0, 1, send(0, 1, send(0, 1)))), main(waits(2, send(0, 1, send(0, 1)))), 3, False)
        self.are(main(send(0, 1)), main(send(0, 2)), 1, False)
        self.are(main(send(0, 1)), main(send(0, 2)), None, True, given=JOINED)
        self.are(main(take(0, 1, samples.alike(1, 2, wait(send(0, 0))))), main(take(0, 1)), 3, False)

    def test_a_stranger_and_names_of_one_side(self):
        self.are(main(take(0, 1, samples.alike(1, 5, wait()))), main(take(0, 1)), None, True)
        self.are(main(take(0, 1, samples.alike(1, 5, send(0, 0)))), main(take(0, 1)), 2, False)
        self.are(main(one(send(3, 4), wait(take(3, 0, send(0, 4))))), main(one(send(3, 4), wait(take(3, 0, send(0, 4))))), None, True)
        # The name 4 is forgotten by a wait of one side; it comes in again as a stranger.
        left = main(wait(take(3, 0, send(3, 0))))
        right = main(one(samples.alike(4, 5, wait()), wait(take(3, 0, send(3, 0)))))
        self.are(left, right, None, True)
        self.are(main(take(3, 0, samples.alike(0, 4, send(3, 3)))), main(take(3, 0, samples.alike(0, 4, wait(send(3, 3))))), None, True)

    def test_likeness_is_early(self):
        two = main(one(take(0, 1, send(0, 0)), take(0, 1)))
        three = main(one(take(0, 1, send(0, 0)), take(0, 1), take(0, 1, samples.alike(1, 2, send(0, 0)))))
        self.assertIs(alike(two, three, "late"), False)
        self.are(two, three, None, True)

    def test_marked_choices(self):
        # A silent step that decides is seen: behind it nothing can be sent any more.
        self.are(main(one(send(0, 1), wait())), main(send(0, 1)), 2, False)
        self.are(main(one(send(0, 1), wait())), main(one(send(0, 1), wait(wait()))), None, True)
        self.are(main(one(send(0, 1), send(0, 1, wait()))), main(send(0, 1)), None, True)

    def test_met_triples(self):
        self.assert_same(weak_triples(main(wait()), main(STOP)), ((0, 0, ()), (1, 0, ())))
        self.assert_same(weak_triples(main(wait()), main(wait())), ((0, 0, ()), (0, 1, ()), (1, 0, ()), (1, 1, ())))
        self.assert_same(weak_triples(one=main(wait(send(0, 1))), other=main(send(0, 1)), given=AS_IS),
                         ((0, 0, ((0, 0), (1, 1))), (1, 0, ((0, 0), (1, 1))), (2, 1, ())))
        self.assert_same(weak_triples(main(send(0, 1)), main(take(0, 1))), ((0, 0, ((0, 0),)),))
        self.assert_same(weak_paper(main(wait()), main(STOP)), ((0, 0, ()), (1, 0, ())))
        self.assert_same(rooted_paper(one=main(wait()), other=main(wait()), given=AS_IS),
                         ((0, 0, ()), (0, 1, ()), (1, 0, ()), (1, 1, ())))
        self.assert_same(weak_paper(main(one(wait(), wait(send(0, 1)))), main(one(wait(), wait(send(0, 1))))),
                         weak_paper(one=main(one(wait(), wait(send(0, 1)))), other=main(one(wait(send(0, 1)), wait()))))

    def test_against_the_oracle(self):
        seen = set()
        for one_program, other, given in pairs_of_programs():
            sides = likely.Told(one_program, given), likely.Told(other, given)
            first = likely.first(*sides)
            triples = likely.met(*sides, first)
            if len(triples) > 40 or len(sides[0].rows) * len(sides[1].rows) > 150:
                continue
            triples = likely.met(*sides, first, True)
            self.assertEqual(weak_triples(one_program, other, given), likely.told(triples), (one_program, other))
            held, gone = likely.rounds(*sides, "weak")
            self.assertIs(alike_weak(one_program, other, given), first in held)
            rooted = likely.answered(*sides, first, "weak", held, True)
            self.assertIs(alike_rooted(one_program, other, given), rooted)
            seen.add((gone.get(first), rooted))
            if first in held:
                self.assertEqual(weak_paper(one_program, other, given), likely.told(held))
                self.are(one_program, other, None, rooted, given)
            else:
                self.assertEqual(rounds_weak(one_program, other, given), gone[first])
        self.assertLessEqual({(None, True), (None, False), (1, False), (2, False), (3, False)}, seen)

    def test_early_rooted_weak(self):
        seen = set()
        for one_program, other, given in pairs_of_programs() + [(TWO_TAKES, THREE_TAKES, AS_IS)]:
            if len(graph(one_program, given)[0]) * len(graph(other, given)[0]) > 200:
                continue
            row = [alike(one_program, other, "late", given), alike(one_program, other, "early", given),
                   alike_rooted(one_program, other, given), alike_weak(one_program, other, given)]
            self.assertEqual(row, sorted(row))
            seen.add(sum(row))
        self.assertEqual(seen, {0, 1, 2, 3, 4})

    def test_pieces_that_the_document_calls_rooted_alike(self):
        chance = random.Random(391)
        count = 0
        while count < 40:
            piece = random_piece(chance, 3, 0)
            few, more = [[random_piece(chance, 3, 0, branch=True) for _ in range(chance.randrange(3))] for _ in range(2)]

            def ahead(behind, kind=chance.randrange(3)):
                return (wait(behind), send(0, 1, behind), take(0, 1, behind))[kind]

            both = wait(one(*few, *more))
            choice = one(*few, wait(piece))
            told = [(ahead(wait(piece)), ahead(piece)), (one(*few, both), one(both)),
                    (ahead(choice), one(ahead(choice), ahead(piece)))]
            if not all(is_small(main(left), main(right), most=20) for left, right in told):
                continue
            for left, right in told:
                self.are(main(left), main(right), None, True)
            count += 1

    def test_a_wait_ahead_and_further_branches(self):
        chance = random.Random(392)
        seen = set()
        for one_program, other in near_programs(393, 60, 3):
            branch = random_piece(chance, 2, 0, branch=True)
            self.assertEqual(one_program[0], other[0])
            wider = [(program[0], one(wait(program[1]), branch)) for program in (one_program, other)]
            if not is_small(one_program, other, *wider, most=15):
                continue
            rooted = alike_rooted(one_program, other)
            seen.add((rooted, alike_weak(one_program, other)))
            if rooted:
                self.assertIs(alike_rooted(*wider), True)
        self.assertLessEqual({(True, True), (False, True), (False, False)}, seen)
        # Weakly alike ones need not stay so in a choice.
        self.are(main(one(wait(P), send(0, 0))), main(one(P, send(0, 0))), 2, False)

    def test_they_go_on_through_a_third_program(self):
        count = 0
        for one_program, other in near_programs(394, 60, 3):
            third = (other[0], wait(other[1]))
            if not is_small(one_program, other, third, most=12):
                continue
            names = [set(oracle.first(program, AS_IS)[1]) for program in (one_program, other)]
            if alike_weak(one_program, other) and names[0] <= names[1]:
                self.assertIs(alike_weak(one_program, third), True)
                waiting = [(program[0], wait(program[1])) for program in (one_program, other)]
                self.assertIs(alike_rooted(*waiting), True)
                self.assertIs(alike_rooted(waiting[0], (other[0], waits(2, other[1]))), True)
                count += 1
        self.assertGreater(count, 15)

    def test_one_to_one_renaming_of_what_is_given(self):
        chance = random.Random(395)
        for one_program, other in near_programs(396, 40, 3):
            if not is_small(one_program, other, most=15):
                continue
            given = tuple(chance.sample(range(10), 10))
            for asked in (alike_weak, alike_rooted):
                self.assertIs(asked(one_program, other, given), asked(one_program, other))

    def test_renamed_programs_do_what_programs_do(self):
        chance = random.Random(397)
        for one_program, other in near_programs(398, 40, 3):
            given = tuple(chance.randrange(4) for _ in range(10))
            if not is_small(one_program, other, given=given, most=15):
                continue
            for asked in (alike_weak, alike_rooted):
                self.assertIs(asked(one_program, other, given), asked(renamed(one_program, given), renamed(other, given)))

    def test_other_tellings_are_alike(self):
        for program in random_programs(399, 30, 4):
            if not is_small(program, most=15):
                continue
            for other in (program, beside_of(main(STOP), program), (program[0], one_telling(program[1]))):
                self.assertIs(alike_rooted(program, other), True)

    def test_1500_and_1501_triples(self):
        last = one(send(0, 0))
        for asked in (weak_triples, weak_paper):
            self.assertEqual(len(asked(chain(50, STOP), chain(30, STOP))), 1500)
        self.assertIs(alike_weak(chain(50, STOP), chain(30, STOP)), True)
        left, right = [(program[0], one(program[1], send(7, 7, last))) for program in (chain(50, STOP), chain(30, STOP))]
        for asked in PAIRED:
            self.refused(TooGreat, {"most": 1500}, asked, left, right)
        left, right = [(program[0], one(program[1], send(7, 7))) for program in (chain(50, STOP), chain(30, STOP))]
        self.assertEqual(len(weak_triples(left, right)), 1500)
        self.refused(NoMove, {}, rounds_weak, chain(50, STOP), chain(30, STOP))
        self.assertIs(alike_rooted(chain(50, STOP), chain(30, STOP)), True)

    def test_circles(self):
        self.are(ring(7, call(0)), ring(3, call(0)), None, True)
        self.are(ring(5, call(0)), main(STOP), None, False)

    def test_the_order_of_errors(self):
        great = main(beside(SIXTY, wait()))
        for asked in PAIRED:
            self.refused(BadPiece, {"path": (1,)}, asked, main(HOLE), None, None)
            self.refused(BadProgram, {"place": ()}, asked, great, None, None)
            self.refused(BadGiven, {"value": None}, asked, great, great, None)
            self.refused(TooGreat, {"most": 60}, asked, great, main(NINE))
            self.refused(TooGreat, {"most": 8}, asked, main(NINE), great)
            self.refused(TooGreat, {"most": 60}, asked, main(STOP), great)
            for value in values_of_every_kind():
                self.refused(BadGiven, {"value": value}, asked, main(STOP), main(STOP), value)
                with self.assertRaises((BadProgram, BadPiece, TooGreat)):
                    asked(main(STOP), value, None)
                with self.assertRaises((BadProgram, BadPiece, TooGreat)):
                    asked(value, main(STOP), None)

    def test_surroundings_without_takes_keep_them(self):
        for one_program, other in near_programs(400, 50, 3):
            if not is_small(one_program, other, most=12):
                continue
            for around in (lambda piece: send(0, 1, piece), lambda piece: new(1, piece),
                           lambda piece: beside(piece, take(0, 1, unlike(0, 1, send(1, 1))))):
                wider = [(program[0], around(program[1])) for program in (one_program, other)]
                if is_small(*wider, most=25) and alike_rooted(one_program, other):
                    self.assertIs(alike_rooted(*wider), True)
