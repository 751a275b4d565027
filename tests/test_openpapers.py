"""Point 36: papers of open likeness, and attacks."""

import random

from passednames.errors import BadParameter, BadPiece, BadProgram, NoMove, NotOpen, TooGreat, Unlike
from passednames.openly import open_alike, open_met, open_round
from passednames.openpapers import is_open_attack, is_open_paper, open_attack, open_paper
from passednames.standings import start
from tests import jointly, oracle, samples
from tests.samples import Case, HOLE, STOP, Odd, main, one, send, take, unlike, values_of_every_kind, wait, waits
from tests.test_likeness import NINE, ring
from tests.test_openly import FIVE, NOTHING, SIX, THREE, TWO, open_pairs

PAPERS = (open_paper, open_attack)
JUDGES = (is_open_paper, is_open_attack)
THREE_NAMES = main(send(0, 1, send(1, 2)))
SENT = main(send(0, 0, wait(NINE)))


def first_of(*programs):
    """The first joint standing of two programs, told."""
    return jointly.told(jointly.first(programs))[0]


def depth(attack):
    """How deep an attack is."""
    return 1 + max([depth(inner) for inner in attack[3]], default=0)


def nodes(attack):
    """How many attacks there are in an attack, itself counted."""
    return 1 + sum(nodes(inner) for inner in attack[3])


class Papers(Case):

    def test_papers(self):
        echo = main(take(0, 1, send(0, 1)))
        self.assert_same(open_paper(echo, echo), open_met(echo, echo))
        self.assert_same(open_paper(one=echo, other=echo, apart=()), open_met(echo, echo))
        self.assertIs(is_open_paper(one=echo, other=echo, paper=open_paper(echo, echo), apart=()), True)
        self.assert_same(open_paper(main(STOP), main(STOP)), ((NOTHING, NOTHING, (), ()),))
        self.refused(Unlike, {"value": 3}, open_paper, TWO, THREE)
        self.refused(Unlike, {"value": 1}, open_paper, main(STOP), main(wait()))
        self.refused(Unlike, {"value": 2}, open_paper, main(wait()), main(wait(wait())))
        program = main(one(wait(), wait(send(0, 1))))
        paper = open_paper(program, main(one(wait(send(0, 1)), wait())))
        # Waits to unlike rests are met together, too, but do not stay.
        self.assertLess(set(paper), set(open_met(program, main(one(wait(send(0, 1)), wait())))))

    def test_bent_papers(self):
        left, right = main(take(3, 1, send(1, 3, wait()))), main(take(3, 2, send(2, 3, wait())))
        paper = open_paper(left, right)
        self.assertEqual(len(paper), 4)
        for good in (paper[::-1], paper * 3, paper + paper[1:2]):
            self.assertIs(is_open_paper(left, right, good), True)
        s, t, names, unlikes = paper[2]
        self.assertEqual((names, unlikes), ((0,), ()))
        bent = [paper[:place] + paper[place + 1:] for place in range(4)]
        odd = [(s, t, names), (s, t, names, unlikes, ()), [s, t, names, unlikes], (list(s), t, names, unlikes), (s, t, list(names), unlikes),
               (s, t, names, list(unlikes)), (s, t, (), unlikes), (s, t, (2,), unlikes), (s, t, (-1,), unlikes), (s, t, (False,), unlikes),
               (s, t, (0, 1), unlikes), (s, t, (0, 0), unlikes), (s, t, (None,), unlikes), (s, t, (0.0,), unlikes),
               (s, t, names, ((0, 1),)), (s, t, names, ((0, 0),)), (s, t, names, None), (s, t, names, ((0,),)), (s, NOTHING + (0,), (), ()),
               ((True,) + s[1:], t, names, unlikes), (s, (1, False, t[2]), names, unlikes), (None, t, names, unlikes),
               (s, None, names, unlikes), (Odd(), t, names, unlikes), (s, t, Odd(), unlikes), (s, t, names, Odd()), None, Odd(), (), 0]
        bent += [paper + (value,) for value in odd] + [(value,) + paper for value in odd]
        bent += [list(paper), (paper,), (), paper + ((s, t, (1,), ()),), paper + (paper[3][:2] + ((), ()),)]
        for value in bent + values_of_every_kind():
            self.assertIs(is_open_paper(left, right, value), False, value)

    def test_names_and_pairs_of_joint_standings(self):
        # Standings in which nothing moves: two known names on each side, a test that must not be passed.
        still = main(samples.alike(3, 4, samples.alike(5, 5, samples.alike(5, 3, wait()))))
        apart = ((3, 4),)
        first = jointly.told(jointly.first((still, still), apart))[0]
        standing = start(still)[0]
        self.assertEqual(first, (standing, standing, (0, 1, 2), ((0, 1),)))
        self.assertIs(is_open_paper(still, still, (first,), apart), True)
        for names, unlikes, good in (
                ((2, 1, 0), ((0, 1), (1, 2)), True), ((0, 3, 1), ((0, 1), (0, 3)), True), ((3, 4, 0), ((0, 1), (0, 4), (3, 4)), True),
                ((3, 4, 5), (), None), ((0, 1, 3), ((0, 1),), True), ((0, 1, 4), ((0, 1),), False), ((4, 3, 0), ((0, 1),), False),
                ((0, 1, 1), ((0, 1),), False), ((0, 1), ((0, 1),), False), ((0, 1, 2, 3), ((0, 1),), False),
                ((0, 1, 2), (), False), ((0, 1, 2), ((1, 0),), False), ((0, 1, 2), ((0, 1), (0, 1)), False), ((0, 1, 2), ((0, 2), (0, 1)), False),
                ((0, 1, 2), ((0, 1), (0, 3)), False), ((0, 1, 2), ((0, 1), (0, 2)), True), ((0, 1, 3), ((0, 1), (0, 3)), True),
                ((0, 1, 3), ((0, 1), (0, 4)), False), ((0, 1, 2), ((0, True),), False), ((0, 1, 2), ((0, 1, 2),), False),
                ((0, 1, 2), [(0, 1)], False), ((0, 1, 2), ([0, 1],), False), ((0, 1, 2), ((1, 1), (0, 1)), False)):
            value = (first, (standing, standing, names, unlikes))
            if good is None:
                self.refused(TooGreat, {"most": 5}, is_open_paper, still, still, value, apart)
            else:
                self.assertIs(is_open_paper(still, still, value, apart), good, value)

    def test_joint_standings_that_are_not_met(self):
        program = main(send(3, 4, wait(send(4, 3))))
        paper = open_paper(program, program)
        later = [joint for joint in paper if joint[0][0] == 2 and joint[0][2][0][0] == (1, 3, 1)]
        self.assertEqual(len(later), 1)
        s, t, _, _ = later[0]
        for joint, good in (((s, t, (0, 1), ((0, 1),)), True), ((s, t, (1, 0), ()), False), ((s, t, (0, 2), ()), False)):
            self.assertIs(is_open_paper(program, program, paper + (joint,)), good, joint)

    def test_errors_as_things_are_looked_at_from_the_left(self):
        paper = open_paper(THREE_NAMES, THREE_NAMES)
        standing = start(THREE_NAMES)[0]
        six = (standing, standing, (3, 4, 5), ())
        bad = (standing, standing, (0, 0, 1), ())
        self.refused(TooGreat, {"most": 5}, is_open_paper, THREE_NAMES, THREE_NAMES, paper + (six,))
        self.refused(TooGreat, {"most": 5}, is_open_paper, THREE_NAMES, THREE_NAMES, paper + (six, bad))
        self.refused(TooGreat, {"most": 5}, is_open_paper, THREE_NAMES, THREE_NAMES, (six, bad, None) + paper)
        self.assertIs(is_open_paper(THREE_NAMES, THREE_NAMES, paper + (bad, six)), False)
        self.assertIs(is_open_paper(THREE_NAMES, THREE_NAMES, (None, six) + paper), False)
        # Without the first joint standing nothing is looked at.
        first = first_of(THREE_NAMES, THREE_NAMES)
        rest = tuple(joint for joint in paper if joint != first)
        self.assertIs(is_open_paper(THREE_NAMES, THREE_NAMES, (six,) + rest), False)
        self.assertIs(is_open_paper(THREE_NAMES, THREE_NAMES, (six,)), False)
        turned = ((True,) + first[0][1:],) + first[1:]
        self.assertIs(is_open_paper(THREE_NAMES, THREE_NAMES, (six, turned) + rest), False)
        self.assertIs(is_open_paper(THREE_NAMES, THREE_NAMES, [six, first]), False)

    def test_errors_of_moves(self):
        first = first_of(SENT, SENT)
        waiting = (0, 0, (((1, 3), ()),))
        second = (waiting, waiting, (), ())
        self.refused(TooGreat, {"most": 8}, open_paper, SENT, SENT)
        self.refused(TooGreat, {"most": 8}, is_open_paper, SENT, SENT, (first, second))
        self.refused(TooGreat, {"most": 8}, is_open_paper, SENT, SENT, (second, first))
        self.refused(TooGreat, {"most": 8}, is_open_paper, SENT, SENT, (second, None, first))
        self.assertIs(is_open_paper(SENT, SENT, (first,)), False)
        self.assertIs(is_open_paper(SENT, SENT, (first, None, second)), False)
        self.assertIs(is_open_paper(SENT, SENT, (None, second, first)), False)
        # Only if 0 and 1 are one there are too many threads; the joinings come in their order.
        late = main(one(samples.alike(0, 1, wait(NINE)), send(0, 1)))
        self.refused(TooGreat, {"most": 8}, is_open_paper, late, main(STOP), (first_of(late, main(STOP)),))
        early = jointly.told(jointly.first((late, main(STOP)), ((0, 1),)))[0]
        self.assertIs(is_open_paper(late, main(STOP), (early,), ((0, 1),)), False)

    def test_1500_and_1501_things(self):
        paper = open_paper(TWO, TWO)
        long = (paper * 1500)[:1500]
        self.assertIs(is_open_paper(TWO, TWO, long), True)
        self.assertIs(is_open_paper(TWO, TWO, long + paper[:1]), False)
        six = (start(SIX)[0], start(SIX)[0], (0, 1, 2, 3, 4, 5), ())
        self.assertIs(is_open_paper(SIX, SIX, (six,) * 1501), False)
        self.refused(TooGreat, {"most": 5}, is_open_paper, SIX, SIX, (six,) * 1500)

    def test_repeated_things(self):
        idle = main(STOP)
        alone = (NOTHING, NOTHING, (), ())
        wrong = [(NOTHING, NOTHING, (), ((0, 1),)), (NOTHING, NOTHING, ()), ((False, 0, ()), NOTHING, (), ()), [NOTHING, NOTHING, (), ()], None, Odd(),
                 (NOTHING, (0, 0, []), (), ()), (NOTHING, (0, 0, ((), ())), (), ()), ((0, 1, ()), NOTHING, (), ()), (NOTHING, NOTHING, (0,), ())]
        for many in (1, 2, 700, 1500):
            self.assertIs(is_open_paper(idle, idle, (alone,) * many), True)
            # Equal things need not be one and the same.
            self.assertIs(is_open_paper(idle, idle, tuple(((0, 0, ()), (0, 0, ()), (), ()) for _ in range(many))), True)
        for value in wrong:
            for ahead, behind in ((0, 1), (1, 0), (3, 0), (0, 3), (2, 2), (1499, 0), (0, 1499), (700, 799)):
                self.assertIs(is_open_paper(idle, idle, (alone,) * ahead + (value,) + (alone,) * behind), False, value)
            self.assertIs(is_open_paper(idle, idle, (alone, value, alone, value)), False)
            self.assertIs(is_open_paper(idle, idle, (value,) * 1500), False)
        # What is equal to a joint standing, but of other kinds within, is none, however often this stood ahead of it.
        paper = open_paper(TWO, TWO)
        self.assertIs(is_open_paper(TWO, TWO, paper * 3), True)
        for joint in paper:
            known, own, threads = joint[0]
            bent = [((float(known), own, threads),) + joint[1:], ((known, own, list(threads)),) + joint[1:], joint[:2] + (list(joint[2]),) + joint[3:]]
            if joint[2]:
                bent.append(joint[:2] + (tuple(float(name) for name in joint[2]),) + joint[3:])
            if threads:
                path, numbers = threads[0]
                bent += [((known, own, (thread,) + threads[1:]),) + joint[1:] for thread in (
                    ((True,) + path[1:], numbers), (path[:1] + (float(path[1]),) + path[2:] if path[1:] else (1.0,), numbers), (list(path), numbers))]
                if numbers:
                    bent.append(((known, own, ((path, (float(numbers[0]),) + numbers[1:]),) + threads[1:]),) + joint[1:])
            for value in bent:
                for things in (paper * 3 + (value,), paper * 2 + (value,) + paper, (value,) + paper * 3):
                    self.assertIs(is_open_paper(TWO, TWO, things), False, value)

    def test_repeated_things_and_errors(self):
        paper = open_paper(THREE_NAMES, THREE_NAMES)
        standing = start(THREE_NAMES)[0]
        six = (standing, standing, (3, 4, 5), ())
        none = (standing, standing, (0, 0, 1), ())
        for things in (paper * 3 + (six,) * 2, paper * 2 + (six, none) + paper, paper * 2 + (six,) + (None,) * 3, (six, six) + paper * 2):
            self.refused(TooGreat, {"most": 5}, is_open_paper, THREE_NAMES, THREE_NAMES, things)
        for things in (paper * 3 + (none, six), paper * 2 + (None, six) + paper, (none,) * 2 + (six,) + paper):
            self.assertIs(is_open_paper(THREE_NAMES, THREE_NAMES, things), False)
        first = first_of(SENT, SENT)
        waiting = (0, 0, (((1, 3), ()),))
        second = (waiting, waiting, (), ())
        self.refused(TooGreat, {"most": 8}, is_open_paper, SENT, SENT, (first, second) * 2 + (first, None))
        self.assertIs(is_open_paper(SENT, SENT, (first,) * 3 + (None, second) * 2), False)
        # A repeated thing that is not answered is found where it stands first.
        unanswered = first_of(main(wait()), main(STOP))
        self.assertIs(is_open_paper(main(wait()), main(STOP), (unanswered,) * 1500), False)
        self.assertIs(is_open_paper(main(wait()), main(STOP), (unanswered,) * 1501), False)

    def test_a_paper_exactly_if_there_is_no_attack(self):
        kinds = set()
        for first, second, apart in open_pairs(361, 90):
            told = open_alike(first, second, apart)
            kinds.add(told)
            met = open_met(first, second, apart)
            if told:
                paper = open_paper(first, second, apart)
                self.assertIs(is_open_paper(first, second, paper, apart), True)
                self.refused(NoMove, {}, open_attack, first, second, apart)
                self.assertLessEqual(set(paper), set(met))
            else:
                number = open_round(first, second, apart)
                self.refused(Unlike, {"value": number}, open_paper, first, second, apart)
                self.assertIs(is_open_paper(first, second, met, apart), False)
                attack = open_attack(first, second, apart)
                self.assertIs(is_open_attack(first, second, attack, apart), True)
                self.assertLessEqual(depth(attack), number)
                start_joint = jointly.first((first, second), apart)
                found = jointly.met((first, second), start_joint)
                self.assertEqual(jointly.is_attack(found, jointly.told(start_joint)[0], attack), (True, depth(attack)))
                self.assertIs(is_open_attack(second, first, turned(attack), apart), turned_back(first, second, attack, apart))
        self.assertEqual(kinds, {True, False})

    def test_subsets_against_the_oracle(self):
        chance = random.Random(362)
        kinds = set()
        for first, second, apart in open_pairs(363, 70):
            start_joint = jointly.first((first, second), apart)
            found = jointly.met((first, second), start_joint)
            held = jointly.rounds(found)[0] or set(found)
            if not 1 < len(held) < 12:
                continue
            for _ in range(6):
                paper = tuple(joint for joint in sorted(held) if chance.randrange(6))
                good = jointly.told(start_joint)[0] in paper and all(jointly.answered(found[joint], set(paper)) for joint in paper)
                kinds.add(good)
                self.assertIs(is_open_paper(first, second, paper, apart), good)
        self.assertEqual(kinds, {True, False})

    def test_the_order_of_errors(self):
        nine = main(NINE)
        for asked, more in ((open_paper, ()), (open_attack, ()), (is_open_paper, (None,)), (is_open_attack, (None,))):
            self.refused(BadPiece, {"path": (1,)}, asked, main(HOLE), None, *more, None)
            self.refused(BadProgram, {"place": ()}, asked, main(unlike(0, 1, wait())), None, *more, None)
            self.refused(NotOpen, {"path": (1,)}, asked, nine, main(unlike(0, 1, wait())), *more, None)
            self.refused(NotOpen, {"path": (1, 1)}, asked, main(wait(unlike(0, 1, wait()))), nine, *more, None)
            self.refused(BadParameter, {"value": None}, asked, nine, nine, *more, None)
            self.refused(BadParameter, {"value": ((1, 0),)}, asked, nine, nine, *more, ((1, 0),))
            self.refused(TooGreat, {"most": 8}, asked, nine, SIX, *more)
            self.refused(TooGreat, {"most": 8}, asked, SIX, nine, *more)
            for value in values_of_every_kind():
                with self.assertRaises((BadProgram, BadPiece, TooGreat)):
                    asked(value, main(STOP), *more)
        for asked in PAPERS:
            self.refused(TooGreat, {"most": 5}, asked, SIX, SIX)
        self.assertEqual(len(open_met(FIVE, FIVE)[-1][2]), 5)


def turned(attack):
    """An attack with its sides turned about; its joining is told for the other order of names."""
    joining, side, move, answers = attack
    return (joining, 1 - side, move, tuple(turned(inner) for inner in answers))


def turned_back(first, second, attack, apart):
    """Whether the turned attack is one, by the oracle."""
    start_joint = jointly.first((second, first), apart)
    found = jointly.met((second, first), start_joint)
    return jointly.is_attack(found, jointly.told(start_joint)[0], turned(attack))[0]


class Attacks(Case):

    def test_attacks_at_once(self):
        for first, second, attack in (
                (main(wait()), main(STOP), ((), 0, 0, ())), (main(STOP), main(wait()), ((), 1, 0, ())),
                (main(STOP), main(one(send(0, 0), wait())), ((0,), 1, 0, ())), (main(STOP), main(one(send(0, 0), wait())), ((0,), 1, 1, ())),
                (main(samples.alike(3, 4, wait())), main(STOP), ((0, 0), 0, 0, ())),
                (main(waits(2)), main(wait()), ((), 0, 0, (((), 0, 0, ()),))), (main(wait()), main(waits(2)), ((), 1, 0, (((), 1, 0, ()),))),
                (main(waits(2)), main(wait()), ((), 1, 0, (((), 0, 0, ()),)))):
            self.assertIs(is_open_attack(first, second, attack), True)
            self.assertIs(is_open_attack(one=first, other=second, attack=attack, apart=()), True)
            self.assertLessEqual(depth(open_attack(first, second)), depth(attack))
        self.assert_same(open_attack(one=main(wait()), other=main(STOP), apart=()), ((), 0, 0, ()))
        self.assert_same(open_attack(main(samples.alike(3, 4, wait())), main(STOP)), ((0, 0), 0, 0, ()))
        self.refused(NoMove, {}, open_attack, main(samples.alike(3, 4, wait())), main(STOP), ((3, 4),))
        self.assertIs(is_open_attack(main(samples.alike(3, 4, wait())), main(STOP), ((0, 0), 0, 0, ()), ((3, 4),)), False)
        self.assertIs(is_open_attack(main(samples.alike(3, 4, wait())), main(STOP), ((0, 1), 0, 0, ())), False)

    def test_the_example(self):
        attack = open_attack(TWO, THREE)
        self.assertEqual(depth(attack), 3)
        self.assertIs(is_open_attack(TWO, THREE, attack), True)
        self.assertIs(is_open_attack(THREE, TWO, attack), False)
        # The other one waits by its third branch; both answers lose: one can wait twice, one not at all.
        joining, _, _, answers = attack
        self.assertEqual(len(answers), 1)
        self.assertEqual(len(answers[0][3]), 2)
        self.assertEqual(len(joining), 2)

    def test_answers_in_the_order_of_the_moves(self):
        left = main(one(wait(send(0, 1)), wait(send(1, 0))))
        right = main(wait(STOP))
        # The wait of the right is matched by both of the left: to what sends 0 and 1 with the lesser path first.
        good = ((0, 1), 1, 0, (((0, 1), 0, 0, ()), ((0, 1), 0, 0, ())))
        self.assertIs(is_open_attack(left, right, good), True)
        for answers in ((), good[3][:1], good[3] + good[3][:1], list(good[3])):
            self.assertIs(is_open_attack(left, right, good[:3] + (answers,)), False)
        uneven = main(one(wait(wait()), wait(send(0, 0))))
        for answers, told in (((((0,), 0, 0, ()), ((), 0, 0, ())), False), ((((), 0, 0, ()), ((0,), 0, 0, ())), True)):
            self.assertIs(is_open_attack(uneven, right, ((0,), 1, 0, answers)), told)

    def test_bent_attacks(self):
        first, second = main(send(3, 4, send(4, 3))), main(send(3, 4, send(3, 4)))
        good = ((0, 1), 0, 0, (((0, 1), 1, 0, ()),))
        self.assertIs(is_open_attack(first, second, good), True)
        bent = [list(good), good[:3], good + ((),), ((0, 0), 0, 0, good[3]), ((1, 0),) + good[1:], ((0,),) + good[1:], ((0, 1, 2),) + good[1:],
                ((0, True),) + good[1:], ([0, 1],) + good[1:], (None,) + good[1:], (Odd(),) + good[1:],
                ((0, 1), True, 0, good[3]), ((0, 1), 2, 0, good[3]), ((0, 1), -1, 0, good[3]), ((0, 1), None, 0, good[3]), ((0, 1), 0.0, 0, good[3]),
                ((0, 1), 0, 1, good[3]), ((0, 1), 0, -1, good[3]), ((0, 1), 0, False, good[3]), ((0, 1), 0, None, good[3]),
                ((0, 1), 0, Odd(), good[3]), ((0, 1), 0, 0, ()), ((0, 1), 0, 0, list(good[3])), ((0, 1), 0, 0, None), ((0, 1), 0, 0, good[3] * 2),
                ((0, 1), 0, 0, (None,)), ((0, 1), 0, 0, (Odd(),)), ((0, 1), 0, 0, (((0, 1), 1, 1, ()),)), ((0, 1), 0, 0, (((0, 0), 1, 0, ()),)),
                ((0, 1), 0, 0, (good,)), ((0, 1), 0, 0, ([(0, 1), 1, 0, ()],))]
        for value in bent + values_of_every_kind():
            self.assertIs(is_open_attack(first, second, value), False, value)
        # Each side can attack, and so it can behind the first move.
        for side, inner in ((0, 0), (0, 1), (1, 0), (1, 1)):
            self.assertIs(is_open_attack(first, second, ((0, 1), side, 0, (((0, 1), inner, 0, ()),))), True)

    def test_errors_as_an_attack_is_walked_through(self):
        six = ((0, 1, 2, 3, 4, 5), 0, 0, ())
        for value in (six, (None, None, None, None), (Odd(), 0, 0, 0)):
            self.refused(TooGreat, {"most": 5}, is_open_attack, SIX, SIX, value)
        for value in (six[:3], list(six), None, six + (0,)):
            self.assertIs(is_open_attack(SIX, SIX, value), False)
        # Behind a take both sides know six names.
        self.refused(TooGreat, {"most": 5}, is_open_attack, main(take(4, 5, SIX[1])), main(take(4, 5, SIX[1])),
                     ((0, 1, 2, 3, 4), 0, 0, ((None, None, None, None),)))
        self.assertIs(is_open_attack(main(take(4, 5, SIX[1])), main(take(4, 5, SIX[1])), ((0, 1, 2, 3, 4), 0, 0, (None,))), False)
        # Errors of moves stand behind JOINING and SIDE, ahead of MOVE.
        first = main(one(samples.alike(0, 1, wait(NINE)), send(0, 1)))
        for asked in ((first, main(STOP)), (main(STOP), first)):
            for value in (((0, 0), 0, None, None), ((0, 0), 1, 0, ()), ((0, 0), 0, 9, 9)):
                self.refused(TooGreat, {"most": 8}, is_open_attack, *asked, value)
            for value in (((0, 0), 2, 0, ()), ((0, 0), None, 0, ()), ((0, 2), 0, 0, ()), (None, 0, 0, ()), ((0, 1), 0, 5, ()), ((0, 1), 0, 0, None)):
                self.assertIs(is_open_attack(*asked, value), False, value)
        # At another joining nothing is too great.
        self.assertIs(is_open_attack(first, main(STOP), ((0, 1), 0, 0, ())), True)
        self.assertIs(is_open_attack(main(STOP), first, ((0, 1), 1, 0, ())), True)
        self.refused(TooGreat, {"most": 8}, open_attack, first, main(STOP))

    def test_answers_are_looked_at_from_the_left(self):
        left = main(one(wait(wait(NINE)), wait(send(0, 1, wait()))))
        right = main(wait(send(0, 0)))
        standings = [rest[0] for _, (rest,) in oracle.moves(left, start(left)[0])]
        self.assertEqual([standing[0] for standing in standings], [0, 2])
        good, bad = ((0, 1), 0, 0, ()), None
        self.refused(TooGreat, {"most": 8}, is_open_attack, left, right, ((0, 1), 1, 0, (((0,), 0, 0, ()), bad)))
        self.assertIs(is_open_attack(left, right, ((0, 1), 1, 0, (bad, good))), False)

    def test_attacks_are_small(self):
        # A send of the first has two answers on each level, and all of them lose; its wait has but one.
        bodies, doubled = [waits(2)], [wait()]
        for number in range(3):
            again = samples.call(number, 0)
            bodies.append(one(send(0, 0, again), wait(again)))
            doubled.append(one(send(0, 0, again), send(0, 0, doubled[-1]), wait(again)))
        first, second = [(tuple(((0,), body) for body in row), samples.call(3, 0)) for row in (bodies, doubled)]
        self.assertEqual(open_round(first, second), 5)
        attack = open_attack(first, second)
        self.assertIs(is_open_attack(first, second, attack), True)
        self.assertEqual((depth(attack), nodes(attack)), (5, 5))

    def test_deep_attacks(self):
        first, second = ring(44, samples.call(0)), (ring(44, samples.call(0))[0][:3] + (((), waits(11)),), samples.call(0))
        self.assertEqual(open_round(first, second), 45)
        attack = open_attack(first, second)
        self.assertLessEqual(depth(attack), 45)
        self.assertIs(is_open_attack(first, second, attack), True)
        long = ((), 0, 0, ())
        for _ in range(3000):
            long = ((), 0, 0, (long,))
        self.assertIs(is_open_attack(first, first, long), False)
