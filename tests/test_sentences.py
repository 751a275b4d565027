"""Points 46 to 48: sentences, labels, whether sentences hold, their depth."""

import random

from passednames.conditions import all_joinings
from passednames.errors import BadGiven, BadPiece, BadProgram, BadSentence, TooGreat
from passednames.graphs import graph
from passednames.likeness import alike
from passednames.names import AS_IS
from passednames.programs import renamed
from passednames.sentences import depth_of, holds, is_early, need_sentence, turned_sentence
from tests import oracle, samples
from tests.labelled import Labelled, depth, random_sentence
from tests.samples import (Case, HOLE, STOP, Odd, beside, call, circling_programs, main, near_programs, new, one, random_programs, send, take,
                           take_families, unlike, values_of_every_kind, wait, waits)
from tests.test_likeness import NINE

NINE_PROGRAM = main(NINE)
# More than 60 standings.
BIG = main(beside(waits(4), waits(3), waits(3)))
WAITS = (0, ("wait", ()))
EXAMPLE = ((WAITS, (1, ("take", 0, ((0, (True, 0, ())), (None, (False, 0, ())))))), (True, 1, (3,)))
ASKING = (need_sentence, depth_of, is_early, turned_sentence)
ONE_TAKE = main(take(3, 1, samples.alike(1, 3, wait())))
TWO_TAKES = main(one(take(3, 1, wait()), take(3, 1)))


def saying(action, many=0, names=(), truth=True, rows=()):
    """A sentence whose last row has this action, behind others."""
    return (rows + ((many, action),), (truth, len(rows), names))


class Need(Case):

    def good(self, sentence):
        self.assertIs(need_sentence(sentence), sentence)
        self.assertIs(need_sentence(value=sentence), sentence)

    def bad(self, path, sentence):
        for asked in ASKING:
            self.refused(BadSentence, {"path": path}, asked, sentence)
        self.refused(BadSentence, {"path": path}, holds, main(STOP), sentence)

    def test_sentences(self):
        self.good(EXAMPLE)
        self.good(((WAITS,), (False, 0, ())))
        every = (WAITS, (24, ("send", 0, 23, ((True, 0, ()), (False, 0, ())))), (3, ("open", 2, ((True, 1, (3,) * 24), (False, 0, ())))),
                 (2, ("take", 1, ())), (1, ("take", 0, ((None, (True, 3, (1, 0))), (0, (True, 3, (0, 0))), (None, (False, 0, ()))))),
                 (2, ("wait", ((True, 4, (1,)),) * 30)))
        self.good((every, (True, 5, (9, 0))))
        self.good((every, (False, 1, tuple(range(10)) + (0,) * 14)))
        # Rows that no use leads to are rows.
        self.good(((WAITS,) * 7, (True, 3, ())))
        self.good(random_sentence(random.Random(1), 40))

    def test_what_is_no_sentence(self):
        for value in values_of_every_kind() + [EXAMPLE + (0,), list(EXAMPLE), EXAMPLE[:1]]:
            if type(value) is tuple and len(value) == 2:
                continue
            self.bad((), value)
        for value in values_of_every_kind() + [list(EXAMPLE[0])]:
            if not isinstance(value, tuple):
                self.bad((0,), (value, EXAMPLE[1]))
                self.bad((0,), (value, None))
        self.bad((1,), ((), (True, 0, ())))
        self.bad((1,), ((), ()))
        self.bad((0,), ([], []))

    def test_how_many_rows(self):
        rows = (WAITS,) * 1500
        self.good((rows, (True, 1499, ())))
        self.assertEqual(depth_of((rows, (True, 1499, ()))), 1)
        for asked in ASKING:
            self.refused(TooGreat, {"most": 1500}, asked, (rows + (None,), None))
            self.refused(TooGreat, {"most": 1500}, asked, (rows + (WAITS,), (True, 0, ())))
            self.refused(BadSentence, {"path": (0, 1499)}, asked, (rows[:1499] + (None,), None))
        self.refused(TooGreat, {"most": 1500}, holds, main(STOP), (rows + (WAITS,), (True, 0, ())), None)

    def test_wrong_rows(self):
        wrong = values_of_every_kind() + [WAITS + (0,), WAITS[:1], list(WAITS), (25, ("wait", ())), (-1, ("wait", ())), (True, ("wait", ())), (0.0, ("wait", ())),
                                          (None, ("wait", ())), (0, ["wait", ()]), (0, ("wait", [])), (0, ("wait",)), (0, ("wait", (), ())), (0, ("Wait", ())),
                                          (0, ("tau", ())), (1, ("taken", 0, ())), (1, ("sends", 0, 0, ())), (1, ("opens", 0, ())), (0, ()), (0, None), (0, Odd()), (0, ("wait", None)), (0, (None, ())), (0, ("send", 0, 0, ())),
                                          (1, ("send", 0, 1, ())), (1, ("send", 1, 0, ())), (1, ("send", 0, 0)), (1, ("send", 0, 0, (), ())), (1, ("send", False, 0, ())),
                                          (1, ("send", 0, False, ())), (1, ("send", None, 0, ())), (1, ("send", 0, 0, None)), (0, ("open", 0, ())), (1, ("open", 1, ())),
                                          (1, ("open", 0)), (1, ("open", 0, (), ())), (1, ("open", True, ())), (1, ("open", 0, None)), (1, ("open", 0, [])),
                                          (0, ("take", 0, ())), (1, ("take", 0)), (1, ("take", 1, ())), (1, ("take", 0, (), ())), (1, ("take", 0, [])), (1, ("take", 0, None)),
                                          (1, ("take", False, ())), (1, ("take", 0, (None,))), (1, ("take", 0, ((0,),)))]
        for row in wrong:
            self.bad((0, 0), ((row,), (True, 0, ())))
            self.bad((0, 1), ((WAITS, row, None), None))

    def test_wrong_uses(self):
        rows = (WAITS, (2, ("wait", ())))
        wrong = values_of_every_kind() + [(True, 2, ()), (True, -1, ()), (True, True, (0, 0)), (True, False, ()), (True, None, ()), (True, 0.0, ()), (1, 0, ()), (0, 0, ()),
                                          (None, 0, ()), ("True", 0, ()), (True, 0, []), (True, 0, None), (True, 0, (0,)), (True, 1, (0,)), (True, 1, ()),
                                          (True, 1, (0, 0, 0)), (True, 1, [0, 0]), (True, 1, (0, True)), (True, 1, (None, 0)), (True, 1, (0, -1)), (True, 1, (0, 0.0)),
                                          (True, 0, (), ()), (True, 0), [True, 0, ()], (True, 1, (0, Odd())), (Odd(), 0, ()), (True, Odd(), ())]
        for use in wrong + [(True, 1, (0, 3))]:
            for action in (("wait", (use,)), ("wait", ((True, 0, ()), use)), ("send", 0, 0, (use,)), ("take", 0, ((0, use),)), ("take", 0, ((0, (True, 0, ())), (2, use)))):
                self.bad((0, 2), (rows + ((3, action),), None))
        for use in wrong + [(True, 1, (0, 4))]:
            for action in (("open", 0, (use,)), ("take", 0, ((None, use),))):
                self.bad((0, 2), (rows + ((3, action),), None))
        for case in [value for value in values_of_every_kind() if value is not None] + [3, -1, True, 0.0, "0"]:
            self.bad((0, 2), (rows + ((3, ("take", 0, ((case, (True, 0, ())),))),), None))
        self.good((rows + ((3, ("open", 0, ((True, 1, (3, 3)),))),), (True, 2, (0, 0, 0))))
        self.good((rows + ((3, ("take", 0, ((None, (True, 1, (3, 3))), (2, (True, 1, (2, 2)))))),), (True, 2, (0, 0, 0))))
        # A row does not use itself, nor what stands behind it.
        self.bad((0, 0), (((0, ("wait", ((True, 0, ()),))),), None))
        self.bad((0, 0), (((0, ("wait", ((True, 1, ()),))), WAITS), None))
        for use in wrong + [(True, 1, (0, 10))]:
            self.bad((1,), (rows, use))
        self.good((rows, (True, 1, (9, 9))))


class Holds(Case):

    def told(self, expected, program, sentence, given=AS_IS):
        self.assertIs(holds(program, sentence, given), expected)
        self.assertIs(holds(program=program, sentence=sentence, given=given), expected)
        self.assertIs(holds(program, turned_sentence(sentence), given), not expected)
        self.assertIs(Labelled(program, given).holds(sentence, given), expected)

    def test_the_example(self):
        self.assertIs(holds(ONE_TAKE, EXAMPLE), True)
        self.told(True, ONE_TAKE, EXAMPLE)
        self.told(False, TWO_TAKES, EXAMPLE)
        self.told(True, main(one(*TWO_TAKES[1][1], ONE_TAKE[1])), EXAMPLE)
        self.assertEqual(depth_of(EXAMPLE), 2)
        self.assertIs(is_early(EXAMPLE), False)

    def test_waits(self):
        waiting = saying(("wait", ()))
        self.told(True, main(wait()), waiting)
        self.told(False, main(STOP), waiting)
        self.told(False, main(send(0, 1)), waiting)
        self.told(True, main(beside(send(0, 1), take(0, 1))), waiting)
        two = saying(("wait", ((True, 0, ()),)), rows=(WAITS,))
        self.told(True, main(waits(2)), two)
        self.told(False, main(wait()), two)
        # All uses must hold behind one and the same move.
        both = saying(("wait", ((True, 1, (0,)), (True, 2, (0,)))), 1, (0,), rows=(WAITS, (1, ("send", 0, 0, ())), (1, ("take", 0, ()))))
        self.told(True, main(wait(one(send(0, 0), take(0, 1)))), both)
        self.told(False, main(one(wait(send(0, 0)), wait(take(0, 1)))), both)
        self.told(True, main(one(wait(), wait(wait()))), saying(("wait", ((False, 0, ()),)), rows=(WAITS,)))
        self.told(False, main(wait(wait())), saying(("wait", ((False, 0, ()),)), rows=(WAITS,)))

    def test_sends(self):
        sends = saying(("send", 0, 1, ()), 2, (3, 4))
        self.told(True, main(send(3, 4)), sends)
        self.told(False, main(send(4, 3)), sends)
        self.told(False, main(new(4, send(3, 4))), sends)
        self.told(True, main(send(5, 6)), sends, given=(0, 1, 2, 7, 8, 7, 8, 7, 8, 9))
        self.told(False, main(send(5, 6)), sends)
        self.told(True, main(send(3, 3)), saying(("send", 0, 1, ()), 2, (3, 4)), given=(0, 1, 2, 3, 3, 5, 6, 7, 8, 9))
        self.told(True, main(send(3, 3)), saying(("send", 0, 0, ()), 1, (3,)))
        self.told(False, main(send(3, 3)), saying(("send", 0, 1, ()), 2, (3, 4)))
        # Names that come back are the same ones; what is forgotten is no other name's label.
        echo = main(take(3, 0, send(3, 0)))
        row = (2, ("send", 0, 1, ()))
        self.told(True, echo, saying(("take", 0, ((None, (True, 0, (0, 1))), (0, (True, 0, (0, 0))))), 1, (3,), rows=(row,)))
        self.told(False, echo, saying(("take", 0, ((None, (True, 0, (0, 0))),)), 1, (3,), rows=(row,)))

    def test_opens(self):
        opens = saying(("open", 0, ()), 1, (3,))
        self.told(True, main(new(5, send(3, 5))), opens)
        self.told(False, main(send(3, 5)), opens)
        self.told(False, main(new(5, send(4, 5))), opens)
        back = (2, ("take", 1, ()))
        self.told(True, main(new(5, send(3, 5, take(5, 6)))), saying(("open", 0, ((True, 0, (0, 1)),)), 1, (3,), rows=(back,)))
        self.told(False, main(new(5, send(3, 5, take(3, 6)))), saying(("open", 0, ((True, 0, (0, 1)),)), 1, (3,), rows=(back,)))
        # What is opened is none of the worths of the row, known or not.
        for name in (3, 4):
            self.told(False, main(new(5, send(3, 5, take(5, 6)))), saying(("open", 0, ((True, 0, (0, 1)),)), 2, (3, name), rows=(back,)))

    def test_takes(self):
        def row(*pairs):
            return saying(("take", 0, pairs), 2, (3, 4), rows=(WAITS,))
        yes, no = (True, 0, ()), (False, 0, ())
        self.told(True, main(take(3, 1)), row())
        self.told(False, main(take(4, 1)), row())
        self.told(False, main(send(3, 3)), row())
        three = main(take(3, 1, samples.alike(1, 3, wait())))
        four = main(take(3, 1, samples.alike(1, 4, wait())))
        none = main(take(3, 1, unlike(1, 3, unlike(1, 4, wait()))))
        self.told(True, three, row((0, yes), (1, no), (None, no)))
        self.told(True, four, row((0, no), (1, yes), (None, no)))
        self.told(True, none, row((0, no), (1, no), (None, yes)))
        self.told(False, none, row((0, no), (1, yes), (None, yes)))
        self.told(True, main(take(3, 1, wait())), row((0, yes), (1, yes), (None, yes)))
        # 4 is no known name of the first one: it comes as a stranger, but it is the name 4.
        sent = saying(("take", 0, ((1, (True, 0, (0, 1))),)), 2, (3, 4), rows=((2, ("send", 0, 1, ())),))
        self.told(True, main(take(3, 1, send(3, 1))), sent)
        self.told(True, main(take(3, 1, send(3, 4))), sent)
        self.told(False, main(take(3, 1, new(4, send(3, 4)))), sent)
        self.told(True, main(take(3, 1, samples.alike(1, 4, send(3, 4)))), sent)
        self.told(False, main(take(3, 1, unlike(1, 4, send(3, 1)))), sent)
        # A take must do for all pairs.
        self.told(False, TWO_TAKES, row((0, yes), (1, no)))
        self.told(True, TWO_TAKES, row((0, yes)))
        self.told(True, TWO_TAKES, row((0, no)))
        # Many pairs with one case.
        self.told(False, TWO_TAKES, row((0, no), (0, yes)))

    def test_a_forgotten_name_comes_in_again(self):
        # Behind the take 3 and 4 are forgotten; 4 is then a stranger with the label of 4.
        program = main(take(3, 1, take(1, 2, send(1, 2))))
        rows = ((2, ("send", 0, 1, ())), (3, ("take", 2, ((1, (True, 0, (2, 1))), (None, (True, 0, (2, 3))), (2, (True, 0, (2, 2)))))))
        self.told(True, program, saying(("take", 0, ((None, (True, 1, (0, 1, 2))),)), 2, (3, 4), rows=rows))
        rows = ((2, ("send", 0, 1, ())), (3, ("take", 2, ((1, (True, 0, (2, 0))),))))
        self.told(False, program, saying(("take", 0, ((None, (True, 1, (0, 1, 2))),)), 2, (3, 4), rows=rows))

    def test_many_names(self):
        row = (24, ("take", 23, tuple((case, (True, 0, tuple([case] * 2))) for case in range(24))))
        sentence = (((2, ("send", 0, 1, ())), row), (True, 1, (3,) * 12 + (4,) * 12))
        self.told(True, main(take(4, 0, send(0, 0))), sentence)
        self.told(False, main(take(4, 0, send(0, 4))), sentence)

    def test_long_sentences(self):
        circle = main(call(0), ((), wait(call(0))))
        rows = tuple([WAITS] + [(0, ("wait", ((True, number, ()),))) for number in range(1499)])
        self.assertIs(holds(circle, (rows, (True, 1499, ()))), True)
        self.assertIs(holds(main(waits(11)), (rows, (True, 1499, ()))), False)
        self.assertIs(holds(main(waits(11)), (rows, (True, 10, ()))), True)
        self.assertIs(holds(main(waits(11)), (rows, (True, 11, ()))), False)
        self.assertEqual(depth_of((rows, (True, 1499, ()))), 1500)
        # Each row uses all rows ahead of it: a row is asked once, not as often as ways lead to it.
        rows = tuple([(0, ("wait", tuple([(True, inner, ()) for inner in range(number)]))) for number in range(300)])
        self.assertIs(holds(circle, (rows, (True, 299, ()))), True)
        self.assertEqual(depth_of((rows, (True, 299, ()))), 300)

    def test_with_a_second_telling(self):
        chance = random.Random(47)
        counted = {True: 0, False: 0}
        programs = [each for pair in near_programs(3, 20) + take_families(4, 20) for each in pair] + random_programs(6, 30) + circling_programs(2, 20)
        for program in programs:
            for given in (AS_IS, (0, 1, 1, 3, 0, 5, 6, 7, 8, 9)):
                if not isinstance(oracle.outcome(graph, program, given)[0], tuple):
                    continue
                labelled = Labelled(program, given)
                for _ in range(10):
                    sentence = random_sentence(chance, chance.randrange(1, 9))
                    self.assertIs(need_sentence(sentence), sentence)
                    told = holds(program, sentence, given)
                    self.assertIs(told, labelled.holds(sentence, given), (program, sentence, given))
                    self.assertIs(holds(program, turned_sentence(sentence), given), not told)
                    # What the names are does not matter: the given program does the same with its names.
                    names = tuple(given[name] for name in sentence[1][2])
                    self.assertIs(holds(renamed(program, given), (sentence[0], sentence[1][:2] + (names,))), told)
                    counted[told] += 1
        self.assertGreater(min(counted.values()), 300, counted)

    def test_alike_programs(self):
        chance = random.Random(48)
        counted = 0
        for first, second in near_programs(8, 90, 3) + take_families(9, 40):
            for likeness in ("early", "late"):
                for joining in all_joinings(3)[::2]:
                    given = tuple(joining) + AS_IS[3:]
                    told = oracle.outcome(alike, first, second, likeness, given)
                    if told is not True:
                        continue
                    for _ in range(6):
                        sentence = random_sentence(chance, chance.randrange(1, 7), early=likeness == "early")
                        if likeness == "early" and not is_early(sentence):
                            continue
                        self.assertIs(holds(first, sentence, given), holds(second, sentence, given))
                        counted += 1
        self.assertGreater(counted, 600)

    def test_errors(self):
        # In this order: the program, the sentence, what is given, the graph.
        self.refused(BadPiece, {"path": (1,)}, holds, main(HOLE), None, None)
        self.refused(BadProgram, {"place": ()}, holds, None, None, None)
        self.refused(BadSentence, {"path": ()}, holds, BIG, None, None)
        self.refused(TooGreat, {"most": 1500}, holds, BIG, ((None,) * 1501, None), None)
        for value in values_of_every_kind():
            self.refused(BadGiven, {"value": value}, holds, NINE_PROGRAM, EXAMPLE, value)
        self.refused(TooGreat, {"most": 8}, holds, NINE_PROGRAM, EXAMPLE)
        self.refused(TooGreat, {"most": 8}, holds, main(wait(NINE)), ((WAITS,), (True, 0, ())))
        self.refused(TooGreat, {"most": 60}, holds, BIG, EXAMPLE)


class Depth(Case):

    def test_depth(self):
        for many in range(1, 6):
            rows = tuple([WAITS] + [(0, ("wait", ((True, number, ()), (False, 0, ())))) for number in range(many - 1)])
            self.assertIs(type(depth_of((rows, (False, many - 1, ())))), int)
            self.assertEqual(depth_of(sentence=(rows, (False, many - 1, ()))), many)
        # Rows that the USE does not lead to do not count.
        self.assertEqual(depth_of((rows, (True, 0, ()))), 1)
        chance = random.Random(2)
        for _ in range(200):
            sentence = random_sentence(chance, chance.randrange(1, 9))
            self.assertEqual(depth_of(sentence), depth(sentence))
            self.assertEqual(depth_of(turned_sentence(sentence)), depth(sentence))

    def test_early(self):
        def takes(*cases):
            return (2, ("take", 0, tuple((case, (True, 0, ())) for case in cases)))
        for cases, told in (((), True), ((None,), True), ((0,), True), ((None, None), True), ((1, 1, 1), True), ((0, 1), False), ((None, 0), False),
                            ((0, None), False), ((1, 1, 0), False)):
            self.assertIs(is_early(((WAITS, takes(*cases)), (True, 1, (0, 0)))), told)
            # Also in a row that no use leads to.
            self.assertIs(is_early(sentence=((WAITS, takes(*cases), WAITS), (True, 2, ()))), told)
        # Unlike cases in unlike rows are let.
        self.assertIs(is_early(((WAITS, takes(0), takes(1), takes(None)), (True, 1, (0, 0)))), True)
        chance = random.Random(3)
        for _ in range(50):
            self.assertIs(is_early(random_sentence(chance, 6, early=True)), True)

    def test_turned(self):
        self.assert_same(turned_sentence(EXAMPLE), (EXAMPLE[0], (False, 1, (3,))))
        self.assert_same(turned_sentence(sentence=turned_sentence(EXAMPLE)), EXAMPLE)
