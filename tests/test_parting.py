"""Point 49: sentences that hold of one program and not of another one."""

import random

from passednames.errors import BadGiven, BadLikeness, BadPiece, BadProgram, BadSentence, NoMove, TooGreat
from passednames.likeness import rounds_apart
from passednames.names import AS_IS
from passednames.parting import parting, parts
from passednames.sentences import depth_of, holds, is_early, need_sentence, turned_sentence
from tests import oracle, samples
from tests.labelled import Labelled, random_sentence
from tests.samples import (Case, HOLE, STOP, beside, call, circling_programs, main, near_programs, new, one, random_programs, send, take,
                           take_families, unlike, values_of_every_kind, wait, waits)
from tests.test_likeness import DENSE
from tests.test_sentences import BIG, EXAMPLE, NINE_PROGRAM, ONE_TAKE, TWO_TAKES

JOINED = (0, 1, 1, 0, 4, 5, 6, 7, 8, 9)
ALL_THREE = main(one(*TWO_TAKES[1][1], ONE_TAKE[1]))
YES = ((0, ("wait", ())),)


def rounds(one_program, other, likeness, given=AS_IS):
    """What rounds_apart returns, 0 if the programs are alike, None if they are too great."""
    try:
        return rounds_apart(one_program, other, likeness, given)
    except NoMove:
        return 0
    except TooGreat:
        return None


class Parting(Case):

    def part(self, first, second, likeness, given=AS_IS):
        """Asks for a sentence that parts two programs; returns it."""
        sentence = parting(first, second, likeness, given)
        self.assertIs(need_sentence(sentence), sentence)
        self.assertLessEqual(len(sentence[0]), 1500)
        self.assertEqual(depth_of(sentence), rounds_apart(first, second, likeness, given))
        self.assertIs(parts(first, second, sentence, given), True)
        if likeness == "early":
            self.assertIs(is_early(sentence), True)
        return sentence

    def part_told_twice(self, first, second, likeness, given=AS_IS):
        """Asks a second telling, too."""
        sentence = self.part(first, second, likeness, given)
        self.assert_same(parting(one=first, other=second, likeness=likeness, given=given), sentence)
        self.assertIs(parts(one=second, other=first, sentence=sentence, given=given), False)
        self.assertIs(parts(second, first, turned_sentence(sentence), given), True)
        self.assertIs(Labelled(first, given).holds(sentence, given), True)
        self.assertIs(Labelled(second, given).holds(sentence, given), False)
        return sentence

    def test_the_example(self):
        self.assertIs(parts(ONE_TAKE, TWO_TAKES, EXAMPLE), True)
        self.assertIs(parts(ALL_THREE, TWO_TAKES, EXAMPLE), True)
        self.assertIs(parts(TWO_TAKES, ALL_THREE, EXAMPLE), False)
        self.assertIs(parts(ALL_THREE, ONE_TAKE, EXAMPLE), False)
        self.assertIs(is_early(self.part_told_twice(ALL_THREE, TWO_TAKES, "late")), False)
        self.assertIs(is_early(self.part_told_twice(TWO_TAKES, ALL_THREE, "late")), False)
        self.refused(NoMove, {}, parting, ALL_THREE, TWO_TAKES, "early")

    def test_small_programs(self):
        pieces = [STOP, wait(), waits(2), one(wait(), waits(2)), send(0, 1), send(1, 0), send(0, 0), new(5, send(0, 5)), new(5, send(0, 5, take(5, 6))), take(0, 1),
                  take(0, 3, send(3, 0)), take(0, 3, send(0, 3)), take(0, 3, samples.alike(3, 1, wait())), take(0, 3, unlike(3, 1, wait())),
                  new(5, send(0, 5, send(0, 5))), new(5, send(0, 5, new(6, send(0, 6)))), take(0, 3, take(0, 4, send(3, 4))),
                  take(0, 3, take(0, 4, send(4, 3))), beside(send(0, 0), take(0, 2)), wait(take(1, 2)), one(take(0, 1), take(0, 1, wait()))]
        for likeness in ("early", "late"):
            for given in (AS_IS, JOINED):
                for first in pieces:
                    for second in pieces:
                        if rounds(main(first), main(second), likeness, given):
                            self.part_told_twice(main(first), main(second), likeness, given)
                        else:
                            self.refused(NoMove, {}, parting, main(first), main(second), likeness, given)

    def test_names_of_one_side_alone(self):
        # What one side takes or opens is a stranger's name for the other side.
        for first, second in ((send(3, 4), send(3, 5)), (take(3, 1, send(1, 4)), take(3, 1, send(1, 5))), (take(3, 1, samples.alike(1, 4, wait())), take(3, 1)),
                              (take(3, 1), take(3, 1, samples.alike(1, 4, wait()))), (new(4, send(3, 4)), send(3, 4)),
                              (take(3, 1, take(3, 2, unlike(1, 2, wait()))), take(3, 1, take(3, 2, wait()))),
                              (take(3, 0, new(1, send(3, 1, send(0, 1)))), take(3, 0, new(1, send(3, 1, send(1, 0)))))):
            for likeness in ("early", "late"):
                for given in (AS_IS, (9, 8, 7, 6, 5, 4, 3, 2, 1, 0), (0, 0, 2, 3, 4, 4, 6, 7, 8, 9)):
                    if rounds(main(first), main(second), likeness, given):
                        self.part_told_twice(main(first), main(second), likeness, given)
                        self.part_told_twice(main(second), main(first), likeness, given)

    def test_many_programs(self):
        met = {}
        pairs = near_programs(5, 40) + take_families(3, 25) + list(zip(random_programs(1, 15), random_programs(2, 15)))
        pairs += list(zip(circling_programs(1, 15), circling_programs(2, 15)))
        for first, second in pairs:
            for likeness in ("early", "late"):
                for given in (AS_IS, JOINED):
                    number = rounds(first, second, likeness, given)
                    if number:
                        self.part(first, second, likeness, given)
                        self.part(second, first, likeness, given)
                    met[number] = met.get(number, 0) + 1
        self.assertGreater(min(met.get(number, 0) for number in (0, 1, 2, 3)), 8, met)

    def test_no_sentence_of_less_depth_parts(self):
        chance = random.Random(49)
        sentences = [random_sentence(chance, chance.randrange(1, 8), early=place % 2 == 0) for place in range(30)]
        counted = 0
        for first, second in near_programs(15, 40) + take_families(13, 20):
            for likeness in ("early", "late"):
                number = rounds(first, second, likeness)
                if number is None or number == 1:
                    continue
                for sentence in sentences:
                    if (number == 0 or depth_of(sentence) < number) and (likeness == "late" or is_early(sentence)):
                        self.assertIs(parts(first, second, sentence), False)
                        self.assertIs(parts(second, first, sentence), False)
                        counted += 1
        self.assertGreater(counted, 300)

    def test_errors(self):
        for value in values_of_every_kind():
            self.refused(BadLikeness, {"value": value}, parting, NINE_PROGRAM, BIG, value, None)
            self.refused(BadGiven, {"value": value}, parting, NINE_PROGRAM, BIG, "late", value)
        for word in ("weak", "rooted", "open", "Late"):
            self.refused(BadLikeness, {"value": word}, parting, BIG, BIG, word)
        self.refused(BadPiece, {"path": (1,)}, parting, main(HOLE), None, None, None)
        self.refused(BadProgram, {"place": ()}, parting, BIG, None, None, None)
        self.refused(TooGreat, {"most": 8}, parting, NINE_PROGRAM, BIG, "early")
        self.refused(TooGreat, {"most": 60}, parting, BIG, NINE_PROGRAM, "early")
        self.refused(TooGreat, {"most": 8}, parting, main(wait()), main(wait(NINE_PROGRAM[1])), "early")
        self.refused(NoMove, {}, parting, main(STOP), main(STOP), "late")
        # Met triples are counted before rounds are.
        self.refused(TooGreat, {"most": 1500}, parting, DENSE, DENSE, "late")


class Parts(Case):

    def test_parts(self):
        waits_once = (YES, (True, 0, ()))
        self.assertIs(parts(main(wait()), main(STOP), waits_once), True)
        self.assertIs(parts(main(STOP), main(wait()), waits_once), False)
        self.assertIs(parts(main(wait()), main(wait()), waits_once), False)
        self.assertIs(parts(main(STOP), main(STOP), waits_once), False)
        self.assertIs(parts(main(STOP), main(wait()), turned_sentence(waits_once)), True)
        sends = (((2, ("send", 0, 1, ())),), (True, 0, (3, 4)))
        self.assertIs(parts(main(send(3, 4)), main(send(3, 3)), sends), True)
        self.assertIs(parts(main(send(3, 4)), main(send(3, 3)), sends, (3,) * 10), False)
        chance = random.Random(5)
        for first, second in near_programs(25, 30):
            if isinstance(oracle.outcome(oracle.graph, first, AS_IS)[0], str) or isinstance(oracle.outcome(oracle.graph, second, AS_IS)[0], str):
                continue
            for _ in range(10):
                sentence = random_sentence(chance, 5)
                self.assertIs(parts(first, second, sentence), holds(first, sentence) and not holds(second, sentence))

    def test_errors(self):
        good = (YES, (True, 0, ()))
        self.refused(BadPiece, {"path": (1,)}, parts, main(HOLE), None, None, None)
        self.refused(BadProgram, {"place": ()}, parts, BIG, None, None, None)
        for value in values_of_every_kind():
            with self.assertRaises(BadSentence):
                parts(NINE_PROGRAM, BIG, value, None)
            self.refused(BadGiven, {"value": value}, parts, NINE_PROGRAM, BIG, good, value)
        self.refused(BadSentence, {"path": (1,)}, parts, NINE_PROGRAM, BIG, (YES, (True, 1, ())), None)
        self.refused(TooGreat, {"most": 1500}, parts, NINE_PROGRAM, BIG, (YES * 1501, None), None)
        self.refused(TooGreat, {"most": 8}, parts, NINE_PROGRAM, BIG, good)
        self.refused(TooGreat, {"most": 60}, parts, BIG, NINE_PROGRAM, good)
        # The graphs of both are made, whatever holds of the first.
        self.refused(TooGreat, {"most": 8}, parts, main(STOP), NINE_PROGRAM, good)
        self.refused(TooGreat, {"most": 60}, parts, main(STOP), BIG, good)
