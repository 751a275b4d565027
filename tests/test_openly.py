"""Points 34 and 35: joint standings, open likeness."""

import itertools
import random

from passednames.conditions import all_joinings
from passednames.contexts import surrounded
from passednames.errors import BadParameter, BadPiece, BadProgram, NoMove, NotOpen, TooGreat
from passednames.joinings import alike_at, alike_joined, both_names
from passednames.likeness import alike
from passednames.names import AS_IS
from passednames.openly import open_alike, open_met, open_round
from tests import jointly, oracle, samples
from tests.samples import (Case, HOLE, STOP, beside, call, circling_programs, main, near_programs, new, one, random_programs,
                           send, take, take_families, unlike, values_of_every_kind, wait, waits)
from tests.test_joinings import few_names, put_into, random_surrounding
from tests.test_likeness import NINE, SIXTY, of_triples, one_telling

ALL = (open_alike, open_round, open_met)
A, B = waits(2), wait()
TWO = main(take(0, 1, one(A, B)))
THREE = main(take(0, 1, one(A, B, wait(samples.alike(1, 2, wait())))))
SIX = main(beside(send(0, 1), send(2, 3), send(4, 5)))
FIVE = main(beside(send(0, 1), send(2, 3), take(4, 5)))
NOTHING = (0, 0, ())


def has_unlike(program):
    """Whether an unlike stands somewhere in a program."""
    return "unlike" in repr(program)


def open_pairs(seed, many, deep=4):
    """Pairs of programs without unlike, with pairs of names apart; few joint standings of theirs are met."""
    chance = random.Random(seed)
    rings = circling_programs(seed, 16)
    pairs = near_programs(seed, many, deep) + take_families(seed, many // 4) + list(zip(rings, rings[1:])) + [(TWO, THREE)]
    pairs += [(ring, ring) for ring in rings]
    pairs += [(program, (program[0], one_telling(program[1]))) for program in random_programs(seed + 1, many // 2, deep)]
    found = []
    for first, second in pairs:
        if has_unlike(first) or has_unlike(second):
            continue
        apart = chance.choice([(), (), ((0, 1),), ((0, 1), (1, 2)), ((0, 3), (2, 3)), ((0, 1), (0, 2), (1, 2))])
        try:
            if len(open_met(first, second, apart)) < 100:
                found.append((first, second, apart))
        except TooGreat:
            pass
    return found


class Open(Case):

    def are(self, first, second, told, apart=()):
        """told: the round in which they part, None if they are open alike."""
        for asked in ((first, second), (second, first)):
            self.assertIs(open_alike(*asked, apart), told is None)
            self.assertIs(open_alike(one=asked[0], other=asked[1], apart=apart), told is None)
            if told is None:
                self.refused(NoMove, {}, open_round, *asked, apart)
            else:
                self.assert_same(open_round(*asked, apart), told)
                self.assert_same(open_round(one=asked[0], other=asked[1], apart=apart), told)
        if apart == ():
            self.assertIs(open_alike(first, second), told is None)

    def test_the_example(self):
        self.are(TWO, THREE, 3)
        self.assertIs(alike_joined(TWO, THREE, "late"), True)

    def test_rounds(self):
        for many, more in itertools.combinations(range(4), 2):
            self.are(main(waits(many)), main(waits(more)), many + 1)
        for many in range(4):
            self.are(main(waits(many)), main(one(waits(many), waits(many)) if many else STOP), None)
        self.are(main(send(0, 1)), main(send(0, 1)), None)
        self.are(main(send(0, 1)), main(send(1, 0)), 1)
        self.are(main(send(0, 1, send(0, 1))), main(send(0, 1)), 2)

    def test_names_that_may_be_joined(self):
        tested = main(samples.alike(3, 4, wait()))
        self.are(tested, main(STOP), 1)
        self.are(tested, main(STOP), None, ((3, 4),))
        self.are(tested, main(STOP), 1, ((3, 5),))
        self.are(tested, main(STOP), 1, ((2, 3), (4, 5)))
        self.are(main(beside(send(3, 4), take(5, 6))), main(one(send(3, 4, take(5, 6)), take(5, 6, send(3, 4)))), 1)
        self.are(main(beside(send(3, 4), take(5, 6))), main(one(send(3, 4, take(5, 6)), take(5, 6, send(3, 4)))), None, ((3, 5),))
        self.are(main(beside(send(3, 4), take(5, 6))),
                 main(one(send(3, 4, take(5, 6)), take(5, 6, send(3, 4)), samples.alike(3, 5, wait()))), None)
        # Joined through a third name: 3 and 5 stay unlike, so 4 is at most one of them.
        both = main(samples.alike(3, 4, samples.alike(4, 5, wait())))
        self.are(both, main(STOP), None, ((3, 5),))
        self.are(both, main(STOP), 1, ((3, 6),))

    def test_a_stranger_may_be_joined_later(self):
        self.are(main(take(0, 1, samples.alike(0, 1, wait()))), main(take(0, 1)), 2)
        self.are(main(take(0, 1, wait(samples.alike(0, 1, wait())))), main(take(0, 1, wait())), 3)
        self.are(main(take(0, 1, samples.alike(1, 2, wait()))), main(take(0, 1)), 2, ((0, 1), (0, 2), (1, 2)))
        self.are(main(take(0, 1, take(0, 2, samples.alike(1, 2, wait())))), main(take(0, 1, take(0, 2))), 3)

    def test_an_opened_name_stays_unlike_the_names_ahead(self):
        self.are(main(new(1, send(0, 1, samples.alike(0, 1, wait())))), main(new(1, send(0, 1))), None)
        self.are(main(new(1, send(0, 1, wait(samples.alike(1, 2, wait()))))), main(new(1, send(0, 1, wait()))), None)
        self.are(main(new(1, new(2, send(0, 1, send(0, 2, samples.alike(1, 2, wait())))))),
                 main(new(1, new(2, send(0, 1, send(0, 2))))), None)
        # A name that comes in behind it may be the opened one.
        self.are(main(new(1, send(0, 1, take(0, 2, samples.alike(1, 2, wait()))))), main(new(1, send(0, 1, take(0, 2)))), 3)
        self.are(main(take(0, 2, new(1, send(0, 1, samples.alike(1, 2, wait()))))), main(take(0, 2, new(1, send(0, 1)))), None)

    def test_names_of_one_side_alone(self):
        self.are(main(one(send(3, 3), samples.alike(3, 4, send(3, 3)))), main(send(3, 3)), None)
        self.are(main(one(send(3, 3), samples.alike(3, 4, send(3, 3)))), main(one(send(3, 3), samples.alike(5, 6, send(5, 3)))), 1)
        self.are(main(send(3, 4)), main(send(3, 5)), 1)

    def test_definitions(self):
        once = (((0,), send(0, 0, call(0, 0))),)
        twice = (((4,), send(4, 4, send(4, 4, call(0, 4)))),)
        self.are((once, call(0, 3)), (twice, call(0, 3)), None)
        self.are((once, call(0, 3)), (twice, call(0, 2)), 1)
        taking = (((0,), take(0, 1, send(0, 1, call(0, 0)))),)
        twofold = (((0,), take(0, 1, send(0, 1, take(0, 1, send(0, 1, call(0, 0)))))),)
        self.are((taking, call(0, 3)), (twofold, call(0, 3)), None)
        minting = (((0,), new(1, send(0, 1, call(0, 0)))),)
        self.are((minting, call(0, 3)), (minting, new(1, send(3, 1, call(0, 3)))), None)

    def test_against_the_oracle(self):
        seen = set()
        for first, second, apart in open_pairs(351, 110):
            start = jointly.first((first, second), apart)
            found = jointly.met((first, second), start)
            self.assertEqual(open_met(first, second, apart), tuple(sorted(found)), (first, second, apart))
            gone = jointly.rounds(found)[1]
            told = gone.get(jointly.told(start)[0])
            seen.add(told)
            self.assertIs(open_alike(first, second, apart), told is None)
            if told is None:
                self.refused(NoMove, {}, open_round, first, second, apart)
            else:
                self.assertEqual(open_round(first, second, apart), told)
        self.assertLessEqual({None, 1, 2, 3}, seen)

    def test_late_alike_at_each_joining_that_may_be(self):
        kept = 0
        for first, second, apart in open_pairs(352, 90):
            names = both_names(first, second)
            if len(names) > 5 or not open_alike(first, second, apart):
                continue
            told = alike_at(first, second, "late")
            for joining in all_joinings(len(names)):
                block = dict(zip(names, joining))
                if all(a not in block or b not in block or block[a] != block[b] for a, b in apart):
                    self.assertIn(joining, told, (first, second, apart))
                    kept += 1
            if not apart:
                for likeness in ("early", "late", "weak", "rooted"):
                    self.assertIs(alike_joined(first, second, likeness), True)
        self.assertGreater(kept, 80)

    def test_more_pairs_apart_keep_it(self):
        kept = 0
        chance = random.Random(353)
        for first, second, apart in open_pairs(354, 60):
            if open_alike(first, second, apart):
                more = {*apart, *[tuple(sorted(chance.sample(range(5), 2))) for _ in range(2)]}
                self.assertIs(open_alike(first, second, tuple(sorted(more))), True)
                kept += 1
        self.assertGreater(kept, 15)

    def test_surroundings_keep_it(self):
        chance = random.Random(355)
        kept = 0
        for first, second, _ in few_names(356, 100):
            if has_unlike(first) or has_unlike(second) or not open_alike(first, second):
                continue
            around = random_surrounding(chance)
            put = put_into(around, first, second)
            if put is None or has_unlike(around):
                continue
            try:
                self.assertIs(open_alike(*put), True, (first, second, around))
                kept += 1
            except TooGreat:
                pass
        self.assertGreater(kept, 10)
        # Late alike programs are not kept by a take around them, if they are not open alike.
        left = main(one(samples.alike(1, 2, wait()), wait()))
        self.are(left, main(wait()), None)
        self.assertIs(alike(main(samples.alike(1, 2, wait())), main(STOP), "late"), True)
        self.are(main(samples.alike(1, 2, wait())), main(STOP), 1)
        self.are(*[surrounded(main(take(0, 1, HOLE)), program) for program in (main(samples.alike(1, 2, wait())), main(STOP))], 2)


class Met(Case):

    def met(self, first, second, joints, apart=()):
        self.assert_same(open_met(first, second, apart), joints)
        self.assert_same(open_met(one=first, other=second, apart=apart), joints)

    def test_first_joint_standings(self):
        two = (2, 0, (((1,), (0, 1)),))
        self.met(main(STOP), main(STOP), ((NOTHING, NOTHING, (), ()),))
        self.met(main(samples.alike(3, 4, B)), main(STOP), (((2, 0, (((1,), (0, 1)),)), NOTHING, (), ()),))
        self.met(main(samples.alike(3, 4, B)), main(STOP), ((two, NOTHING, (), ((0, 1),)),), ((3, 4),))
        self.met(main(samples.alike(3, 4, B)), main(STOP), ((two, NOTHING, (), ()),), ((3, 5), (4, 6)))
        self.met(main(STOP), main(samples.alike(3, 4, B)), ((NOTHING, two, (0, 1), ()),))
        self.met(main(send(3, 4)), main(samples.alike(3, 5, B)), ((two, two, (0, 2), ()),))
        self.met(main(send(3, 4)), main(samples.alike(3, 5, B)), ((two, two, (0, 2), ((0, 1), (0, 2), (1, 2))),), ((3, 4), (3, 5), (4, 5)))
        self.met(main(send(3, 4)), main(samples.alike(4, 5, B)), ((two, two, (1, 2), ()),))
        self.met(main(send(5, 4)), main(samples.alike(4, 5, B)), ((two, two, (0, 1), ()),))
        self.met(main(send(2, 4)), main(samples.alike(3, 4, B)), ((two, two, (2, 1), ((1, 2),)),), ((3, 4),))

    def test_behind_moves(self):
        self.met(main(send(3, 4)), main(send(3, 4)), (
            (NOTHING, NOTHING, (), ()), ((2, 0, (((1,), (0, 1)),)), (2, 0, (((1,), (0, 1)),)), (0, 1), ())))
        one_name, two_names = (1, 0, (((1, 3), (0, 0)),)), (2, 0, (((1, 3), (0, 1)),))
        echo = main(take(0, 1, send(0, 1)))
        begin = (1, 0, (((1,), (0,)),))
        # The stranger is name 1 of both; joined with name 0 there is no other joint standing behind.
        self.met(echo, echo, ((NOTHING, NOTHING, (), ()), (begin, begin, (0,), ()), (two_names, two_names, (0, 1), ())))
        self.assertNotIn(one_name, [joint[0] for joint in open_met(echo, echo)])

    def test_what_stays_unlike(self):
        opening = main(new(1, send(0, 1, send(0, 1))))
        begin, behind = (1, 1, (((1, 2), (0,)),)), (2, 0, (((1, 2, 3), (0, 1)),))
        met = open_met(opening, opening)
        self.assertEqual(len(met), 3)
        self.assertIn((behind, behind, (0, 1), ((0, 1),)), met)
        self.assertNotIn(begin, [joint[0] for joint in met])
        kept = main(wait(samples.alike(3, 4, send(3, 4))))
        for apart, told in (((), ()), (((3, 4),), ((0, 1),))):
            self.assertEqual({joint[3] for joint in open_met(kept, kept, apart) if len(joint[2]) == 2}, {told})
        # Name 5 is forgotten by the wait, and with it that it is unlike the others.
        losing = main(one(wait(samples.alike(3, 4, send(3, 4))), samples.alike(4, 5, wait())))
        self.assertEqual({joint[3] for joint in open_met(losing, losing, ((3, 5), (4, 5)))}, {((0, 2), (1, 2)), ()})

    def test_5_and_6_names(self):
        self.assertEqual(len(open_met(FIVE, FIVE)[-1][2]), 5)
        for asked in ALL:
            self.refused(TooGreat, {"most": 5}, asked, SIX, SIX)
            self.refused(TooGreat, {"most": 5}, asked, main(beside(send(0, 1), send(2, 3))), main(beside(send(4, 5), send(2, 2))))
            self.refused(TooGreat, {"most": 5}, asked, SIX, main(STOP))
            # A sixth name is taken.
            self.refused(TooGreat, {"most": 5}, asked, main(take(4, 5, beside(send(0, 1), send(2, 3), send(4, 5)))),
                         main(take(4, 5, beside(send(0, 1), send(2, 3), send(4, 5)))))
        # Six names that are never met, as nothing is answered.
        self.assertIs(open_alike(main(take(4, 5, beside(send(0, 1), send(2, 3), send(4, 5)))), main(wait())), False)

    def test_1500_and_1501_joint_standings(self):
        self.assertEqual(len(open_met(*of_triples(1500))), 1500)
        self.assertIs(open_alike(*of_triples(1500)), True)
        for asked in ALL:
            self.refused(TooGreat, {"most": 1500}, asked, *of_triples(1501))

    def test_no_60_standings_are_asked_for(self):
        program = main(beside(SIXTY, send(0, 0)))
        self.assertEqual(len(open_met(program, main(STOP))), 1)
        self.assertIs(open_alike(program, main(STOP)), False)

    def test_unlike_tests(self):
        in_main = main(one(wait(), wait(unlike(0, 1, wait())), unlike(2, 3, wait())))
        in_definition = (((0, 1), wait()), ((2,), wait(unlike(2, 2, unlike(2, 2, wait())))))
        for asked in ALL:
            self.refused(NotOpen, {"path": (1, 1, 1, 1)}, asked, in_main, main(STOP))
            self.refused(NotOpen, {"path": (1, 1, 1, 1)}, asked, main(STOP), in_main)
            self.refused(NotOpen, {"path": (0, 1, 1, 1)}, asked, (in_definition, STOP), in_main)
            self.refused(NotOpen, {"path": (0, 1, 1, 1)}, asked, main(STOP), (in_definition, in_main[1]))
            self.refused(NotOpen, {"path": (1, 1, 1, 1)}, asked, in_main, (in_definition, STOP))
            self.refused(NotOpen, {"path": (1,)}, asked, main(STOP), main(unlike(0, 1, wait())))

    def test_wrong_pairs_apart(self):
        wrong = values_of_every_kind()[:-2] + [
            ((0, 0),), ((1, 0),), ((0, 10),), ((-1, 0),), ((0, 1), (0, 1)), ((0, 2), (0, 1)), ((1, 2), (0, 1)), ((0,),), ((0, 1, 2),),
            ([0, 1],), [(0, 1)], ((False, 1),), ((0, True),), ((0.0, 1),), (0, 1), ((0, 1), None), (((0, 1),),), ((None, 1),), ((), ())]
        for asked in ALL:
            for value in wrong:
                self.refused(BadParameter, {"value": value}, asked, main(STOP), main(STOP), value)
        self.assertIs(open_alike(main(STOP), main(STOP), ((0, 1), (0, 9), (1, 2), (8, 9))), True)

    def test_the_order_of_errors(self):
        nine = main(NINE)
        thirteen = main(beside(one(*[send(n, n) for n in range(10)]), new(0, new(1, new(2, send(0, 1, send(2, 2)))))))
        self.assertEqual([oracle.outcome(oracle.first, each, AS_IS) for each in (nine, thirteen)], [("too great", 8), ("too great", 12)])
        for asked in ALL:
            self.refused(BadPiece, {"path": (1,)}, asked, main(HOLE), None, None)
            self.refused(BadProgram, {"place": ()}, asked, main(unlike(0, 1, wait())), None, None)
            self.refused(NotOpen, {"path": (1,)}, asked, nine, main(unlike(0, 1, wait())), None)
            self.refused(BadParameter, {"value": None}, asked, nine, nine, None)
            self.refused(TooGreat, {"most": 8}, asked, nine, thirteen)
            self.refused(TooGreat, {"most": 12}, asked, thirteen, nine)
            self.refused(TooGreat, {"most": 8}, asked, nine, SIX)
            self.refused(TooGreat, {"most": 8}, asked, SIX, nine)
            self.refused(TooGreat, {"most": 5}, asked, SIX, main(waits(1, NINE)))
            self.refused(TooGreat, {"most": 8}, asked, main(STOP), main(waits(1, NINE)))
            self.refused(TooGreat, {"most": 8}, asked, main(waits(1, NINE)), main(STOP))
            for value in values_of_every_kind():
                with self.assertRaises((BadProgram, BadPiece, TooGreat)):
                    asked(value, main(STOP))
                with self.assertRaises((BadProgram, BadPiece, TooGreat)):
                    asked(main(STOP), value)

    def test_errors_of_moves_come_joining_by_joining(self):
        # Only if 0 and 1 are one, a wait leads to nine threads; that is the first joining of the two.
        great = main(samples.alike(0, 1, wait(NINE)))
        for asked in ALL:
            self.refused(TooGreat, {"most": 8}, asked, great, main(STOP))
            self.refused(TooGreat, {"most": 8}, asked, main(STOP), great)
        self.assertIs(open_alike(great, main(STOP), ((0, 1),)), True)
        # Ahead of that the joinings of a joint standing that is found earlier are looked at.
        self.refused(TooGreat, {"most": 5}, open_alike, main(one(wait(), take(0, 1, SIX[1]), send(3, 3, wait(NINE)))),
                     main(one(wait(), take(0, 1, SIX[1]), take(0, 1, STOP))))
