"""Points 25 to 28: triples, early and late likeness, their papers, names that can be exchanged, needed names."""

import itertools
import random

from passednames.contexts import beside_of
from passednames.errors import BadGiven, BadLikeness, BadPiece, BadProgram, NoMove, TooGreat, Unlike
from passednames.likeness import alike, alike_paper, exchanges, is_alike_paper, needed_names, rounds_apart
from passednames.names import AS_IS
from passednames.programs import renamed
from passednames.triples import triples_met
from tests import likely, oracle, samples
from tests.samples import (Case, HOLE, STOP, Odd, beside, call, circling_programs, main, near_programs, new, one,
                           random_programs, send, take, take_families, unlike, values_of_every_kind, wait, waits)

LIKENESSES = ("early", "late")
JOINED = (0, 0, 0, 0, 4, 5, 6, 7, 8, 9)
SIXTY = beside(waits(4), waits(3), waits(2))
NINE = beside(beside(wait(), wait(), wait()), beside(wait(), wait(), wait()), beside(wait(), wait(), wait()))
FOUND = main(take(0, 1, wait()))
TESTED = main(take(0, 1, one(samples.alike(1, 2, wait()), unlike(1, 2, wait()))))
TWO_TAKES = main(one(take(0, 1, wait()), take(0, 1)))
THREE_TAKES = main(one(take(0, 1, wait()), take(0, 1), take(0, 1, samples.alike(1, 2, wait()))))


def ring(waits_in_all, piece):
    """A program with this MAIN, in which call(0) is a circle of so many waits, at most 44."""
    definitions = []
    for number in range(4):
        many = min(11, waits_in_all - 11 * number)
        if many > 0:
            definitions.append(((), many))
    count = len(definitions)
    return (tuple(((), waits(many, call((place + 1) % count))) for place, (_, many) in enumerate(definitions)), piece)


def of_triples(many):
    """Two programs of which so many triples are met, from 1,494 to 1,503: they wait for ever, alike.

    10 triples up to the circles, 39 * 38 on them, and those behind the send.
    """
    tail = waits(10, call(0))
    branches = (tail, send(0, 0, waits(many - 1493)))
    return ring(39, one(*branches)), ring(38, one(*branches))


# A circle of 39 waits or 38: all of its 47 standings can be together with all of them.
DENSE = (((((), one(waits(10, call(1)), waits(9, call(1))))),) + ring(40, STOP)[0][1:], call(0))


def pairs_of_programs():
    """Pairs of programs of all kinds, with what is given."""
    pairs = near_programs(251, 60, 4) + take_families(252, 25)
    rings = circling_programs(253, 30)
    pairs += list(zip(rings, rings[1:])) + [(each, each) for each in rings[:8]]
    found = []
    for place, (one_program, other) in enumerate(pairs):
        given = JOINED if place % 4 == 3 else AS_IS
        sizes = [oracle.outcome(oracle.graph, program, given) for program in (one_program, other)]
        if any(size[0] == "too great" or len(size[0]) > 25 for size in sizes):
            continue
        found.append((one_program, other, given))
    return found


class Triples(Case):

    def met(self, one_program, other, triples, given=AS_IS):
        self.assert_same(triples_met(one_program, other, given), triples)
        self.assert_same(triples_met(one=one_program, other=other, given=given), triples)
        if given == AS_IS:
            self.assert_same(triples_met(one_program, other), triples)

    def test_first_triples(self):
        self.met(main(STOP), main(STOP), ((0, 0, ()),))
        self.met(main(wait()), main(STOP), ((0, 0, ()),))
        self.met(main(send(3, 4)), main(take(4, 0)), ((0, 0, ((1, 0),)),))
        self.met(main(send(3, 4)), main(send(4, 3)), ((0, 0, ((0, 0), (1, 1))),))
        self.met(main(send(4, 3, send(3, 4))), main(take(3, 0)), ((0, 0, ((0, 0),)),))
        self.met(main(send(1, 2)), main(send(3, 0)), ((0, 0, ((0, 0),)), (1, 1, ())), given=JOINED)

    def test_waits_sends_and_opens(self):
        self.met(main(wait()), main(wait()), ((0, 0, ()), (1, 1, ())))
        self.met(main(send(3, 4, send(4, 4))), main(send(3, 4, take(4, 0))), ((0, 0, ((0, 0), (1, 1))), (1, 1, ((0, 0),))))
        self.met(main(send(3, 4)), main(send(3, 5)), ((0, 0, ((0, 0),)),))
        self.met(main(send(3, 4)), main(send(5, 4)), ((0, 0, ((1, 0),)),))
        opening = new(1, send(0, 1, take(1, 2)))
        self.met(main(opening), main(opening), ((0, 0, ((0, 0),)), (1, 1, ((0, 0),)), (2, 2, ())))
        self.met(main(new(1, send(0, 1, take(1, 2)))), main(send(0, 1, take(1, 2))), ((0, 0, ((0, 0),)),))
        self.met(main(new(1, send(0, 1))), main(new(1, send(3, 1))), ((0, 0, ()),))

    def test_takes_with_names_of_one_side_alone(self):
        # Number 1 of the first one, the name 2, is for the other one a name that may come in.
        self.met(main(take(0, 1, send(1, 2))), FOUND, ((0, 0, ((0, 0),)), (1, 1, ()), (2, 1, ())))
        self.met(FOUND, main(take(0, 1, send(1, 2))), ((0, 0, ((0, 0),)), (1, 1, ()), (1, 2, ())))
        both = main(take(0, 1, send(1, 0)))
        self.met(both, both, ((0, 0, ((0, 0),)), (1, 1, ((0, 0),)), (2, 2, ((0, 0), (1, 1))), (3, 3, ())))
        # 2 and 3 are known to one side each: each of them comes in to the other side, but not both as one.
        left, right = main(take(0, 1, send(1, 2))), main(take(0, 1, send(1, 3)))
        self.met(left, right, ((0, 0, ((0, 0),)), (1, 1, ((0, 0),)), (1, 2, ((0, 0),)), (2, 1, ((0, 0),))))

    def test_a_stranger_is_one_name_of_both(self):
        echo = main(take(0, 1, send(0, 1)))
        self.met(echo, echo, ((0, 0, ((0, 0),)), (1, 1, ((0, 0),)), (2, 2, ((0, 0), (1, 1))), (3, 3, ())))

    def test_against_the_oracle(self):
        for one_program, other, given in pairs_of_programs():
            sides = likely.Told(one_program, given), likely.Told(other, given)
            triples = likely.met(*sides, likely.first(*sides))
            self.assertEqual(triples_met(one_program, other, given), likely.told(triples), (one_program, other))

    def test_1500_and_1501(self):
        self.assertEqual(len(triples_met(*of_triples(1500))), 1500)
        self.refused(TooGreat, {"most": 1500}, triples_met, *of_triples(1501))

    def test_the_order_of_errors(self):
        great = main(beside(SIXTY, wait()))
        self.refused(BadPiece, {"path": (1,)}, triples_met, main(HOLE), None, None)
        self.refused(BadProgram, {"place": ()}, triples_met, great, None, None)
        self.refused(BadGiven, {"value": None}, triples_met, great, great, None)
        self.refused(TooGreat, {"most": 60}, triples_met, great, main(NINE))
        self.refused(TooGreat, {"most": 8}, triples_met, main(NINE), great)
        self.refused(TooGreat, {"most": 60}, triples_met, main(STOP), great)
        for value in values_of_every_kind():
            self.refused(BadGiven, {"value": value}, triples_met, main(STOP), main(STOP), value)


class Likeness(Case):

    def are(self, one_program, other, early, late, given=AS_IS):
        """early and late: the round in which they part, None if they are alike."""
        for likeness, told in (("early", early), ("late", late)):
            for first, second in ((one_program, other), (other, one_program)):
                self.assertIs(alike(first, second, likeness, given), told is None)
                self.assertIs(alike(one=first, other=second, likeness=likeness, given=given), told is None)
                if told is None:
                    self.refused(NoMove, {}, rounds_apart, first, second, likeness, given)
                    paper = alike_paper(first, second, likeness, given)
                    self.assertIs(is_alike_paper(first, second, likeness, paper, given), True)
                else:
                    self.assert_same(rounds_apart(first, second, likeness, given), told)
                    self.refused(Unlike, {"value": told}, alike_paper, first, second, likeness, given)
                    met = triples_met(first, second, given)
                    self.assertIs(is_alike_paper(first, second, likeness, met, given), False)

    def test_the_example(self):
        self.are(TESTED, FOUND, None, None)
        self.are(TWO_TAKES, THREE_TAKES, None, 2)
        self.assertEqual(rounds_apart(THREE_TAKES, TWO_TAKES, "late"), 2)

    def test_rounds(self):
        for many, more in itertools.combinations(range(5), 2):
            self.are(main(waits(many)), main(waits(more)), many + 1, many + 1)
        self.are(main(waits(2, send(0, 1))), main(waits(2, send(1, 0))), 3, 3)
        self.are(main(send(0, 1)), main(send(0, 2)), 1, 1)
        self.are(main(send(0, 1)), main(send(0, 2)), None, None, given=JOINED)
        self.are(main(take(0, 1, send(1, 0))), main(take(0, 1, send(0, 1))), 2, 2)
        self.are(main(take(0, 1, samples.alike(0, 1, wait()))), main(take(0, 1)), 2, 2)
        self.are(main(take(0, 1, take(0, 2, samples.alike(1, 2, wait())))), main(take(0, 1, take(0, 2))), 3, 3)

    def test_names_of_one_side_alone(self):
        nothing = samples.alike(3, 4, wait())
        self.are(main(one(send(0, 1), nothing)), main(send(0, 1)), None, None)
        self.are(main(take(0, 1, samples.alike(1, 5, wait()))), main(take(0, 1)), 2, 2)
        self.are(main(take(0, 1, unlike(1, 5, wait()))), FOUND, 2, 2)
        self.are(main(one(take(0, 1, unlike(1, 5, wait())), take(0, 1, samples.alike(1, 5, wait())))),
                 TWO_TAKES, None, 2)

    def test_definitions(self):
        once = (((0,), send(0, 0, call(0, 0))),)
        twice = (((4,), send(4, 4, send(4, 4, call(0, 4)))),)
        self.are((once, call(0, 3)), (twice, call(0, 3)), None, None)
        self.are((once, call(0, 3)), (twice, call(0, 2)), 1, 1)
        self.are((once, send(3, 3, call(0, 3))), (twice, send(3, 3, send(3, 3))), 3, 3)
        swapping = (((0, 1), take(0, 2, call(0, 1, 0))),)
        self.are((swapping, call(0, 3, 4)), (swapping, call(0, 3, 4)), None, None)
        self.are((swapping, call(0, 3, 4)), (swapping, call(0, 4, 3)), 1, 1)
        self.are((swapping, call(0, 3, 4)), (swapping, call(0, 3, 3)), 2, 2)
        self.are((swapping, call(0, 3, 4)), (swapping, call(0, 4, 3)), None, None, given=(3,) * 10)

    def test_beside_and_new(self):
        self.are(main(beside(send(0, 1), take(2, 3))),
                 main(one(send(0, 1, take(2, 3)), take(2, 3, send(0, 1)))), None, None)
        self.are(main(beside(send(0, 1), take(2, 3))),
                 main(one(send(0, 1, take(2, 3)), take(2, 3, send(0, 1)))), 1, 1, given=(0, 1, 0, 3, 4, 5, 6, 7, 8, 9))
        self.are(main(new(0, send(0, 1))), main(STOP), None, None)
        self.are(main(new(1, send(0, 1, send(1, 1)))), main(new(2, send(0, 2, send(2, 2)))), None, None)
        self.are(main(new(1, new(2, send(0, 2, send(0, 1))))), main(new(1, new(2, send(0, 1, send(0, 2))))), None, None)
        self.are(main(new(1, send(0, 1, send(0, 1)))), main(new(1, send(0, 1, new(1, send(0, 1))))), 2, 2)

    def test_an_opened_name_can_come_in_again(self):
        self.are(main(new(1, send(0, 1, take(0, 2, samples.alike(1, 2, wait()))))), main(new(1, send(0, 1, take(0, 2)))), 3, 3)
        self.are(main(take(0, 2, new(1, send(0, 1, samples.alike(1, 2, wait()))))), main(take(0, 2, new(1, send(0, 1)))), None, None)

    def test_against_the_oracle(self):
        seen = set()
        for one_program, other, given in pairs_of_programs():
            sides = likely.Told(one_program, given), likely.Told(other, given)
            for likeness in LIKENESSES:
                held, gone = likely.rounds(*sides, likeness)
                first = likely.first(*sides)
                self.assertIs(alike(one_program, other, likeness, given), first in held)
                seen.add((likeness, gone.get(first)))
                if first in held:
                    self.refused(NoMove, {}, rounds_apart, one_program, other, likeness, given)
                    self.assertEqual(alike_paper(one_program, other, likeness, given), likely.told(held))
                else:
                    self.assertEqual(rounds_apart(one_program, other, likeness, given), gone[first])
                    self.refused(Unlike, {"value": gone[first]}, alike_paper, one_program, other, likeness, given)
        self.assertLessEqual({(likeness, told) for likeness in LIKENESSES for told in (None, 1, 2, 3)}, seen)

    def test_late_alike_programs_are_early_alike(self):
        kinds = set()
        for one_program, other in take_families(261, 60) + near_programs(262, 60, 4):
            if all(oracle.outcome(oracle.graph, program, AS_IS)[0] != "too great" for program in (one_program, other)):
                found = tuple(alike(one_program, other, likeness) for likeness in LIKENESSES)
                kinds.add(found)
                if found[0] != found[1]:
                    self.assertEqual(found, (True, False))
                    self.assertIs(is_alike_paper(one_program, other, "late", alike_paper(one_program, other, "early")), False)
                elif found[1]:
                    self.assertIs(is_alike_paper(one_program, other, "early", alike_paper(one_program, other, "late")), True)
        self.assertEqual(kinds, {(True, True), (True, False), (False, False)})

    def test_likeness_goes_on_through_a_third_program(self):
        chance = random.Random(263)
        count = 0
        for one_program, other in take_families(264, 12) + near_programs(265, 40, 3) + [(TESTED, FOUND), (FOUND, TESTED)]:
            for third in (other, one_program, beside_of(main(STOP), other)):
                programs = (one_program, other, third)
                if any(oracle.outcome(oracle.graph, program, AS_IS)[0] == "too great" for program in programs):
                    continue
                sides = [likely.Told(program, AS_IS) for program in programs]
                for likeness in LIKENESSES:
                    for _ in range(2):
                        count += self.through(sides, likeness, chance)
        self.assertGreater(count, 100)

    def through(self, sides, likeness, chance):
        left = sorted(likely.told(likely.rounds(sides[0], sides[1], likeness)[0]))
        right = likely.rounds(sides[1], sides[2], likeness)[0]
        pairs = [(a, b) for a in likely.read(left) for b in right if a[1] == b[0]]
        if not pairs:
            return 0
        (i, _, m), (_, k, n) = chance.choice(sorted(pairs, key=repr))
        both = frozenset((s, u) for s, t in m for v, u in n if t == v)
        self.assertIn((i, k, both), likely.rounds(sides[0], sides[2], likeness, (i, k, both))[0])
        return 1

    def test_one_to_one_renaming_of_what_is_given(self):
        chance = random.Random(266)
        for one_program, other in near_programs(267, 50, 4) + take_families(268, 10):
            if any(oracle.outcome(oracle.graph, program, AS_IS)[0] == "too great" for program in (one_program, other)):
                continue
            given = tuple(chance.sample(range(10), 10))
            for likeness in LIKENESSES:
                self.assertEqual(told_round(one_program, other, likeness, given), told_round(one_program, other, likeness, AS_IS))

    def test_renamed_programs_do_what_programs_do(self):
        chance = random.Random(269)
        for one_program, other in near_programs(270, 50, 4):
            given = tuple(chance.randrange(5) for _ in range(10))
            if any(oracle.outcome(oracle.graph, program, given)[0] == "too great" for program in (one_program, other)):
                continue
            for likeness in LIKENESSES:
                self.assertEqual(told_round(one_program, other, likeness, given),
                                 told_round(renamed(one_program, given), renamed(other, given), likeness, AS_IS))

    def test_each_program_is_alike_itself_and_its_other_tellings(self):
        for program in random_programs(271, 40, 4):
            if oracle.outcome(oracle.graph, program, AS_IS)[0] == "too great":
                continue
            for other in (program, beside_of(main(STOP), program), (program[0], one_telling(program[1]))):
                for likeness in LIKENESSES:
                    self.assertIs(alike(program, other, likeness), True, program)

    def test_beside_in_another_order(self):
        programs = random_programs(272, 40, 3)
        for left, right in zip(programs[::2], programs[1::2]):
            if len(left[0]) + len(right[0]) > 4:
                continue
            both = beside_of(left, right), beside_of(right, left)
            if oracle.outcome(oracle.graph, both[0], AS_IS)[0] != "too great":
                self.assertIs(alike(*both, "late"), True)

    def test_1500_and_1501_triples(self):
        for likeness in LIKENESSES:
            self.assertIs(alike(*of_triples(1500), likeness), True)
            self.assertEqual(len(alike_paper(*of_triples(1500), likeness)), 1500)
            for asked in (alike, rounds_apart, alike_paper):
                self.refused(TooGreat, {"most": 1500}, asked, *of_triples(1501), likeness)
        self.refused(NoMove, {}, rounds_apart, *of_triples(1500), "early")

    def test_60_and_61_standings(self):
        self.assertIs(alike(main(SIXTY), main(SIXTY), "late"), True)
        great = main(beside(SIXTY, wait()))
        for asked, more in ((alike, ()), (rounds_apart, ()), (alike_paper, ()), (is_alike_paper, ((),))):
            self.refused(TooGreat, {"most": 60}, asked, main(SIXTY), great, "late", *more)
            self.refused(TooGreat, {"most": 60}, asked, great, main(NINE), "late", *more)
            self.refused(TooGreat, {"most": 8}, asked, main(NINE), great, "late", *more)

    def test_wrong_likenesses_and_the_order_of_errors(self):
        great = main(beside(SIXTY, wait()))
        wrong = values_of_every_kind() + ["weak", "rooted", "open", "Late", "early ", b"late", ("late",), ["early"]]
        for asked, more in ((alike, ()), (rounds_apart, ()), (alike_paper, ()), (is_alike_paper, (None,))):
            for value in wrong:
                self.refused(BadLikeness, {"value": value}, asked, main(STOP), main(STOP), value, *more)
            for value in values_of_every_kind():
                self.refused(BadGiven, {"value": value}, asked, main(STOP), main(STOP), "late", *more, value)
            self.refused(BadPiece, {"path": (1,)}, asked, main(HOLE), None, None, *more, None)
            self.refused(BadProgram, {"place": ()}, asked, great, None, None, *more, None)
            self.refused(BadLikeness, {"value": None}, asked, great, great, None, *more, None)
            self.refused(BadGiven, {"value": None}, asked, great, great, "early", *more, None)
            self.refused(TooGreat, {"most": 60}, asked, great, great, "early", *more)

    def test_programs_of_every_kind(self):
        for value in values_of_every_kind():
            for asked, more in ((alike, ()), (rounds_apart, ()), (alike_paper, ()), (is_alike_paper, (None,))):
                for programs in ((value, main(STOP)), (main(STOP), value)):
                    with self.assertRaises((BadProgram, BadPiece, TooGreat)):
                        asked(*programs, None, *more)


def told_round(one_program, other, likeness, given):
    """The round in which two programs part, None if they are alike."""
    try:
        return rounds_apart(one_program, other, likeness, given)
    except NoMove:
        return None


def one_telling(piece):
    """The piece with each row of branches turned about, and one of them told twice."""
    word = piece[0]
    if word == "one" and 0 < len(piece[1]) < 4:
        branches = tuple(one_telling(branch) for branch in reversed(piece[1]))
        return (word, branches + branches[:1])
    if word in ("one", "beside"):
        return (word, tuple(one_telling(part) for part in piece[1]))
    if word == "call":
        return piece
    return piece[:-1] + (one_telling(piece[-1]),)


class Papers(Case):

    def test_papers(self):
        self.assert_same(alike_paper(TESTED, FOUND, "late"), ((0, 0, ((0, 0),)), (1, 1, ()), (2, 1, ()), (3, 2, ())))
        self.assert_same(alike_paper(main(STOP), main(STOP), "early"), ((0, 0, ()),))
        paper = alike_paper(one=TWO_TAKES, other=THREE_TAKES, likeness="early", given=AS_IS)
        self.assertEqual(paper, alike_paper(TWO_TAKES, THREE_TAKES, "early"))
        self.assertIs(is_alike_paper(one=TWO_TAKES, other=THREE_TAKES, likeness="early", paper=paper, given=AS_IS), True)
        self.assertIs(is_alike_paper(TWO_TAKES, THREE_TAKES, "late", paper), False)

    def test_bent_papers(self):
        program, other = main(take(3, 1, send(1, 3, wait()))), main(take(3, 2, send(2, 3, wait())))
        for likeness in LIKENESSES:
            paper = alike_paper(program, other, likeness)
            self.assertEqual(len(paper), 5)
            for good in (paper[::-1], paper * 3, paper + paper[1:2]):
                self.assertIs(is_alike_paper(program, other, likeness, good), True)
            bent = [paper[:place] + paper[place + 1:] for place in range(5)]
            bent += [list(paper), (paper,), (), paper + (None,), paper + ((0, 0),), paper + ((0, 0, (), ()),),
                     paper + ((5, 0, ()),), paper + ((0, 5, ()),), paper + ((-1, 0, ()),), paper + ([3, 3, ()],),
                     paper + ((4, 4, []),), paper + ((4, 4, None),), paper + ((0, 0, ((0, 1),)),), paper + ((0, 0, ((1, 0),)),),
                     paper + ((0, 0, ((0,),)),), paper + ((0, 0, ((0, 0, 0),)),), paper + ((0, 0, ([0, 0],)),),
                     paper + ((0, 0, ((0, 0), (0, 0))),), paper + ((0, 0, ((-1, 0),)),), paper + ((0, 0, ((False, 0),)),),
                     paper + ((0, 0, ((0, False),)),), paper + ((0.0, 0, ()),), paper + (0,), paper + ((Odd(), 0, ()),),
                     tuple((True if i == 1 else i, j, m) for i, j, m in paper), paper + ((4, True, ()),),
                     paper + ((0, 0, ()),), paper + ((3, 4, ()),)]
            for value in bent + values_of_every_kind():
                self.assertIs(is_alike_paper(program, other, likeness, value), False, value)

    def test_matchings_that_are_none(self):
        program = main(send(0, 1, wait()))
        paper = alike_paper(program, program, "late")
        self.assertEqual(paper[0], (0, 0, ((0, 0), (1, 1))))
        # Both names of the first one's standing 0 could be those of the other one's in another way.
        for matching in (((1, 1), (0, 0)), ((0, 0), (0, 1)), ((0, 0), (1, 0)), ((0, 0), (1, 1), (1, 1)), ((0, 2),), ((2, 0),),
                         ((0, 1), (1, 0)), ((0, 0),), ()):
            self.assertIs(is_alike_paper(program, program, "late", paper + ((0, 0, matching),)), False, matching)

    def test_matchings_where_nothing_moves(self):
        still = main(samples.alike(0, 1, wait()))
        paper = ((0, 0, ((0, 0), (1, 1))),)
        self.assertEqual(alike_paper(still, still, "late"), paper)
        for matching in ((), ((0, 1),), ((1, 0),), ((0, 1), (1, 0)), ((0, 0),)):
            self.assertIs(is_alike_paper(still, still, "early", paper + ((0, 0, matching),)), True, matching)
        for matching in (((0, 0), (1, 0)), ((0, 0), (0, 1)), ((1, 1), (0, 0)), ((0, 0), (0, 0)), ((0, 2),), ((2, 0),),
                         [(0, 0)], ((0, 0, 0),), ((0, True),), ((False, 0),), ((0, -1),), ((-1, 0),), (0, 0), None, ((0,),)):
            self.assertIs(is_alike_paper(still, still, "early", paper + ((0, 0, matching),)), False, matching)

    def test_triples_that_are_not_met(self):
        program = main(send(0, 1, wait(wait())))
        paper = alike_paper(program, program, "early")
        self.assertEqual([triple[:2] for triple in paper], [(0, 0), (1, 1), (2, 2), (3, 3)])
        self.assertIs(is_alike_paper(program, program, "early", paper + ((3, 3, ()),)), True)
        self.assertIs(is_alike_paper(program, program, "early", paper + ((1, 2, ()),)), False)
        circle = main(call(0), ((), wait(wait(call(0)))))
        self.assertEqual(alike_paper(circle, circle, "early"), ((0, 0, ()), (1, 1, ())))
        self.assertIs(is_alike_paper(circle, circle, "early", ((0, 0, ()), (1, 1, ()), (0, 1, ()), (1, 0, ()))), True)
        self.assertIs(is_alike_paper(circle, circle, "early", ((0, 0, ()), (1, 1, ()), (0, 1, ()))), False)
        self.assertIs(is_alike_paper(circle, circle, "early", ((0, 1, ()), (1, 0, ()))), False)

    def test_1500_and_1501_things(self):
        paper = alike_paper(TESTED, FOUND, "late")
        long = (paper * 400)[:1500]
        for likeness in LIKENESSES:
            self.assertIs(is_alike_paper(TESTED, FOUND, likeness, long), True)
            self.assertIs(is_alike_paper(TESTED, FOUND, likeness, long + paper[:1]), False)

    def test_more_triples_may_be_met_than_a_paper_has(self):
        # All 39 standings wait for ever, so one triple for each is enough, or for each pair too many.
        self.refused(TooGreat, {"most": 1500}, alike, DENSE, DENSE, "early")
        same = tuple((place, place, ()) for place in range(how_many_of(DENSE)))
        self.assertIs(is_alike_paper(DENSE, DENSE, "late", same), True)
        self.assertIs(is_alike_paper(DENSE, DENSE, "late", same[:-1]), False)

    def test_a_paper_exactly_if_alike(self):
        for one_program, other, given in pairs_of_programs():
            for likeness in LIKENESSES:
                if alike(one_program, other, likeness, given):
                    paper = alike_paper(one_program, other, likeness, given)
                    self.assertIs(is_alike_paper(one_program, other, likeness, paper, given), True)
                    turned = tuple((j, i, tuple(sorted((b, a) for a, b in m))) for i, j, m in paper)
                    self.assertIs(is_alike_paper(other, one_program, likeness, turned, given), True)
                else:
                    met = triples_met(one_program, other, given)
                    self.assertIs(is_alike_paper(one_program, other, likeness, met, given), False)

    def test_subsets_against_the_oracle(self):
        chance = random.Random(281)
        found = set()
        for one_program, other, given in pairs_of_programs():
            met = triples_met(one_program, other, given)
            if not 1 < len(met) < 9:
                continue
            sides = likely.Told(one_program, given), likely.Told(other, given)
            for _ in range(10):
                paper = tuple(triple for triple in met if chance.randrange(4))
                held = likely.read(paper)
                for likeness in LIKENESSES:
                    good = likely.first(*sides) in held and all(
                        likely.answered(*sides, triple, likeness, held) for triple in held)
                    found.add(good)
                    self.assertIs(is_alike_paper(one_program, other, likeness, paper, given), good)
        self.assertEqual(found, {True, False})


def how_many_of(program):
    return len(oracle.graph(program, AS_IS)[0])


class Exchanges(Case):

    def gives(self, program, early, late, given=AS_IS):
        for likeness, told in (("early", early), ("late", late)):
            self.assert_same(exchanges(program, likeness, given), told)
            self.assert_same(exchanges(program=program, likeness=likeness, given=given), told)

    def test_exchanges(self):
        self.gives(main(STOP), ((),), ((),))
        self.gives(main(send(3, 3)), ((0,),), ((0,),))
        self.gives(main(send(3, 4)), ((0, 1),), ((0, 1),))
        swapped = ((0, 1), (1, 0))
        self.gives(main(beside(send(3, 4), send(4, 3))), swapped, swapped)
        self.gives(main(beside(take(3, 4), take(5, 3))), swapped, swapped)
        self.gives(main(take(3, 0, samples.alike(0, 4, wait()))), ((0, 1),), ((0, 1),))
        three = tuple(itertools.permutations(range(3)))
        self.gives(main(take(0, 1, one(samples.alike(1, 2, wait()), samples.alike(1, 3, wait())))),
                   ((0, 1, 2), (0, 2, 1)), ((0, 1, 2), (0, 2, 1)))
        self.gives(main(beside(take(1, 0), take(2, 0), take(3, 0))), three, three)
        self.gives(main(beside(send(1, 2), send(2, 3), send(3, 1))), three[0:1] + ((1, 2, 0), (2, 0, 1)), three[0:1] + ((1, 2, 0), (2, 0, 1)))
        four = tuple(itertools.permutations(range(4)))
        self.gives(main(beside(take(1, 0), take(2, 0), take(3, 0), take(4, 0))), four, four)
        self.gives(main(beside(send(3, 4), send(4, 3))), ((0,),), ((0,),), given=(3,) * 10)

    def test_exchanges_that_are_early_and_not_late(self):
        differ = False
        for first, second in take_families(291, 40):
            for program in (first, second):
                early, late = exchanges(program, "early"), exchanges(program, "late")
                self.assertLessEqual(set(late), set(early))
                differ = differ or early != late
        both = main(one(take(0, 1, one(samples.alike(1, 2, wait()), samples.alike(1, 3, waits(2)))),
                        take(0, 1, one(samples.alike(1, 2, waits(2)), samples.alike(1, 3, waits(2)))),
                        take(0, 1, one(samples.alike(1, 2, wait()), samples.alike(1, 3, wait()))),
                        ))
        self.assertEqual(exchanges(both, "early"), ((0, 1, 2), (0, 2, 1)))
        self.assertEqual(exchanges(both, "late"), ((0, 1, 2),))

    def test_against_the_oracle(self):
        groups = set()
        for program in random_programs(292, 40, 4) + circling_programs(293, 15):
            outcome = oracle.outcome(oracle.graph, program, AS_IS)
            if outcome[0] == "too great" or len(outcome[0]) > 15:
                continue
            side = likely.Told(program, AS_IS)
            known = side.known[0]
            if known > 3:
                continue
            for likeness in LIKENESSES:
                wanted = []
                for row in itertools.permutations(range(known)):
                    start = (0, 0, frozenset(enumerate(row)))
                    if start in likely.rounds(side, side, likeness, start)[0]:
                        wanted.append(row)
                self.assertEqual(exchanges(program, likeness), tuple(wanted))
                groups.add(len(wanted))
                needed = []
                for left in range(known):
                    start = (0, 0, frozenset((n, n) for n in range(known) if n != left))
                    if start not in likely.rounds(side, side, likeness, start)[0]:
                        needed.append(side.names[left])
                self.assertEqual(needed_names(program, likeness), tuple(sorted(needed)))
        self.assertLessEqual({1, 2}, groups)

    def test_a_group(self):
        programs = random_programs(294, 60, 3) + [program for pair in take_families(295, 10) for program in pair]
        programs += [main(beside(take(1, 0), take(2, 0), take(3, 0))), main(beside(send(1, 2), send(2, 3), send(3, 1)))]
        for program in programs:
            if oracle.outcome(oracle.graph, program, AS_IS)[0] == "too great" or len(oracle.first(program, AS_IS)[1]) > 4:
                continue
            for likeness in LIKENESSES:
                group = exchanges(program, likeness)
                self.assertEqual(group, tuple(sorted(set(group))))
                self.assertIn(tuple(range(len(group[0]))), group)
                for p, q in itertools.product(group, repeat=2):
                    self.assertIn(tuple(q[p[s]] for s in range(len(p))), group)
                    self.assertIn(tuple(p.index(s) for s in range(len(p))), group)

    def test_4_and_5_names(self):
        four = beside(take(0, 9), take(1, 9), take(2, 9), take(3, 9))
        self.assertEqual(len(exchanges(main(four), "early")), 24)
        five = main(beside(one(take(0, 9), take(4, 9)), take(1, 9), take(2, 9), take(3, 9)))
        self.refused(TooGreat, {"most": 4}, exchanges, five, "late")
        joined = (0, 1, 2, 3, 0, 5, 6, 7, 8, 9)
        self.assertEqual(len(exchanges(five, "late", joined)), 24)
        self.assertEqual(needed_names(five, "late"), (0, 1, 2, 3, 4))

    def test_the_order_of_errors(self):
        great = main(beside(SIXTY, wait()))
        for asked in (exchanges, needed_names):
            self.refused(BadPiece, {"path": (1,)}, asked, main(HOLE), None, None)
            self.refused(BadLikeness, {"value": None}, asked, great, None, None)
            self.refused(BadGiven, {"value": None}, asked, great, "late", None)
            self.refused(TooGreat, {"most": 60}, asked, great, "late")
            self.refused(TooGreat, {"most": 8}, asked, main(NINE), "late")
            for value in values_of_every_kind() + ["weak", "rooted", "open"]:
                self.refused(BadLikeness, {"value": value}, asked, main(STOP), value)
            for value in values_of_every_kind():
                self.refused(BadGiven, {"value": value}, asked, main(STOP), "early", value)
        five = beside(send(0, 1), send(2, 3), send(4, 4))
        self.refused(TooGreat, {"most": 60}, exchanges, main(beside(five, SIXTY)), "late")
        self.refused(TooGreat, {"most": 1500}, exchanges, DENSE, "late")
        self.assertEqual(needed_names(DENSE, "late"), ())
        dense = (DENSE[0], one(wait(call(0)), send(7, 7)))
        self.refused(TooGreat, {"most": 1500}, needed_names, dense, "early")
        wide = (DENSE[0], one(wait(call(0)), send(0, 1), send(2, 3), send(4, 4)))
        self.refused(TooGreat, {"most": 4}, exchanges, wide, "late")


class Needed(Case):

    def gives(self, program, early, late, given=AS_IS):
        for likeness, told in (("early", early), ("late", late)):
            self.assert_same(needed_names(program, likeness, given), told)
            self.assert_same(needed_names(program=program, likeness=likeness, given=given), told)

    def test_needed_names(self):
        self.gives(main(STOP), (), ())
        self.gives(main(send(5, 3)), (3, 5), (3, 5))
        self.gives(main(send(5, 3)), (0,), (0,), given=(0,) * 10)
        self.gives(main(send(5, 3)), (4, 8), (4, 8), given=(1, 1, 1, 4, 1, 8, 1, 1, 1, 1))
        self.gives(main(one(send(5, 5), samples.alike(1, 2, send(5, 3)))), (5,), (5,))
        self.gives(main(take(5, 0, samples.alike(0, 3, wait()))), (3, 5), (3, 5))
        self.gives(main(take(5, 0, one(samples.alike(0, 3, wait()), unlike(0, 3, wait())))), (5,), (5,))
        self.gives(main(one(take(5, 0, wait()), take(5, 0), take(5, 0, samples.alike(0, 3, wait())))), (5,), (3, 5))

    def test_facts(self):
        chance = 0
        for program in random_programs(296, 50, 4) + [program for pair in take_families(297, 15) for program in pair]:
            outcome = oracle.outcome(oracle.graph, program, AS_IS)
            if outcome[0] == "too great" or len(outcome[0]) > 20:
                continue
            side = likely.Told(program, AS_IS)
            needed = {likeness: needed_names(program, likeness) for likeness in LIKENESSES}
            self.assertLessEqual(set(needed["early"]), set(needed["late"]))
            for likeness in LIKENESSES:
                start = (0, 0, frozenset((n, n) for n, name in enumerate(side.names) if name in needed[likeness]))
                self.assertIn(start, likely.rounds(side, side, likeness, start)[0])
                chance += len(side.names) > len(needed[likeness])
        self.assertGreater(chance, 20)
