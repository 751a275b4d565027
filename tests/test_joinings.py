"""Points 29 to 33: likeness however names are joined, its papers, surroundings that join, what surroundings keep."""

import random

from passednames.conditions import all_joinings
from passednames.contexts import names_over, need_surrounding, surrounded
from passednames.errors import (BadJoining, BadLikeness, BadParameter, BadPiece, BadProgram, NoMove, TooGreat, Unlike)
from passednames.graphs import graph
from passednames.joinings import (alike_at, alike_joined, apart_joined, both_names, given_joined, is_joined_paper,
                                  joined_paper, joining_surrounding)
from passednames.likeness import alike, alike_paper, is_alike_paper
from passednames.names import AS_IS
from passednames.programs import free_names
from passednames.quiet import is_rooted_paper, is_weak_paper
from passednames.silent import alike_rooted, alike_weak, rooted_paper, weak_paper
from tests import oracle, samples
from tests.samples import (Case, HOLE, STOP, Odd, beside, call, main, near_programs, new, one, random_piece, send, take,
                           take_families, unlike, values_of_every_kind, wait)
from tests.test_likeness import DENSE, NINE, SIXTY
from tests.test_silent import P, is_small

FOUR = ("early", "late", "weak", "rooted")
LEFT = main(beside(send(0, 0), take(1, 2)))
RIGHT = main(one(send(0, 0, take(1, 2)), take(1, 2, send(0, 0))))


def are_alike(one_program, other, likeness, given=AS_IS):
    """Whether two programs are alike by one of the four likenesses."""
    if likeness == "weak":
        return alike_weak(one_program, other, given)
    if likeness == "rooted":
        return alike_rooted(one_program, other, given)
    return alike(one_program, other, likeness, given)


def told_given(names, joining):
    """What given_joined returns."""
    row = list(AS_IS)
    for name, first in zip(names, joining):
        row[name] = names[first]
    return tuple(row)


def few_names(seed, many, deep=3):
    """Pairs of small programs over few names that are small at each joining."""
    found = []
    for one_program, other in near_programs(seed, many, deep) + take_families(seed, many // 6):
        names = sorted({*oracle.free(one_program[1]), *oracle.free(other[1])})
        if len(names) > 4:
            continue
        givens = [told_given(names, joining) for joining in all_joinings(len(names))]
        if all(is_small(one_program, other, given=given, most=12) for given in givens):
            found.append((one_program, other, names))
    return found


class Names(Case):

    def test_both_names(self):
        for first, second, told in ((main(STOP), main(STOP), ()), (main(send(3, 4)), main(STOP), (3, 4)),
                                    (main(STOP), main(send(4, 3)), (3, 4)), (main(send(9, 1)), main(take(0, 2)), (0, 1, 9)),
                                    (main(take(0, 1, send(1, 5))), main(new(2, send(2, 7))), (0, 5, 7)),
                                    (((((0,), send(0, 0)),), call(0, 6)), main(STOP), (6,)),
                                    (main(beside(*[send(n, n) for n in range(4)])), main(take(9, 9, take(8, 7))), (0, 1, 2, 3, 8, 9))):
            self.assert_same(both_names(first, second), told)
            self.assert_same(both_names(one=first, other=second), told)
        for value in values_of_every_kind():
            with self.assertRaises((BadProgram, BadPiece, TooGreat)):
                both_names(value, main(STOP))
            with self.assertRaises((BadProgram, BadPiece, TooGreat)):
                both_names(main(STOP), value)
        self.refused(BadPiece, {"path": (1,)}, both_names, main(HOLE), None)
        self.refused(BadProgram, {"place": ()}, both_names, main(STOP), None)

    def test_given_joined(self):
        for names, joining, told in (
                ((), (), AS_IS), ((3,), (0,), AS_IS), ((3, 7), (0, 1), AS_IS), ((3, 7), (0, 0), (0, 1, 2, 3, 4, 5, 6, 3, 8, 9)),
                ((0, 1, 2), (0, 0, 0), (0, 0, 0, 3, 4, 5, 6, 7, 8, 9)), ((1, 4, 9), (0, 1, 1), (0, 1, 2, 3, 4, 5, 6, 7, 8, 4)),
                ((1, 4, 9), (0, 1, 0), (0, 1, 2, 3, 4, 5, 6, 7, 8, 1)),
                ((1, 2, 3, 4, 5), (0, 1, 0, 1, 4), (0, 1, 2, 1, 2, 5, 6, 7, 8, 9))):
            self.assert_same(given_joined(names, joining), told)
            self.assert_same(given_joined(names=names, joining=joining), told)
        for joining in all_joinings(5):
            self.assertEqual(given_joined((0, 2, 3, 5, 8), joining), told_given((0, 2, 3, 5, 8), joining))

    def test_wrong_names_and_joinings(self):
        wrong = [value for value in values_of_every_kind()] + [
            (1, 0), (0, 0), (0, 1, 1), (0, 10), (-1, 0), (True,), (0, True), (0, 1.0), [0, 1], (0, 1, 2, 3, 4, 5), (0, "1"), ("0",)]
        for asked in (given_joined, joining_surrounding):
            for value in wrong:
                self.refused(BadParameter, {"value": value}, asked, value, (0, 0))
            for value in values_of_every_kind() + [(), (0,), (0, 0, 0), (1, 1), (0, 2), (0, -1), (0, True), (False, 0), [0, 0], (0, 0.0),
                                                   (0, None)]:
                self.refused(BadJoining, {"value": value}, asked, (3, 4), value)
            self.refused(BadParameter, {"value": (2, 1)}, asked, (2, 1), None)
            self.refused(BadJoining, {"value": (0, 0, 1)}, asked, (1, 2, 3), (0, 0, 1))
            self.refused(BadJoining, {"value": (0, 1)}, asked, (), (0, 1))


class Joined(Case):

    def are(self, first, second, likeness, joinings):
        """joinings: those at which two programs are alike."""
        self.assert_same(alike_at(first, second, likeness), joinings)
        self.assert_same(alike_at(one=first, other=second, likeness=likeness), joinings)
        every = all_joinings(len(both_names(first, second)))
        apart = [joining for joining in every if joining not in joinings]
        self.assertIs(alike_joined(one=first, other=second, likeness=likeness), not apart)
        self.assertIs(alike_joined(first, second, likeness), not apart)
        if apart:
            self.assert_same(apart_joined(first, second, likeness), apart[0])
            self.assert_same(apart_joined(one=first, other=second, likeness=likeness), apart[0])
            self.refused(Unlike, {"value": apart[0]}, joined_paper, first, second, likeness)
        else:
            self.refused(NoMove, {}, apart_joined, first, second, likeness)
            paper = joined_paper(one=first, other=second, likeness=likeness)
            self.assert_same(joined_paper(first, second, likeness), paper)
            self.assertEqual(len(paper), len(every))
            self.assertIs(is_joined_paper(one=first, other=second, likeness=likeness, paper=paper), True)

    def test_the_example(self):
        for likeness in FOUR:
            self.are(LEFT, RIGHT, likeness, ((0, 1),))
        self.assertIs(alike(LEFT, RIGHT, "early"), True)
        self.assertIs(alike(LEFT, RIGHT, "early", (0, 0, 2, 3, 4, 5, 6, 7, 8, 9)), False)

    def test_two_and_three_names(self):
        for likeness in FOUR:
            self.are(main(STOP), main(STOP), likeness, ((),))
            self.are(main(STOP), main(send(0, 0)), likeness, ())
            self.are(main(send(3, 4)), main(send(4, 3)), likeness, ((0, 0),))
            self.are(main(send(3, 4)), main(send(3, 5)), likeness, ((0, 0, 0), (0, 1, 1)))
            self.are(main(send(3, 4)), main(send(3, 3)), likeness, ((0, 0),))
            self.are(main(samples.alike(3, 4, send(5, 5))), main(STOP), likeness, ((0, 1, 0), (0, 1, 1), (0, 1, 2)))
            self.are(main(unlike(3, 4, send(3, 3))), main(STOP), likeness, ((0, 0),))
            self.are(main(take(3, 4, samples.alike(4, 5, send(5, 5)))), main(take(3, 4, samples.alike(4, 5, send(4, 5)))), likeness,
                     ((0, 0), (0, 1)))
            self.are(main(take(0, 3, samples.alike(3, 1, send(0, 0)))), main(take(0, 3, samples.alike(3, 2, send(0, 0)))), likeness,
                     ((0, 0, 0), (0, 1, 1)))

    def test_each_likeness(self):
        self.are(main(wait(P)), main(P), "weak", all_joinings(2))
        self.are(main(wait(P)), main(P), "rooted", ())
        self.are(main(send(0, 1, wait())), main(send(0, 1)), "rooted", all_joinings(2))
        self.are(main(send(0, 1, wait())), main(send(0, 1)), "early", ())
        two = one(take(0, 1, wait()), take(0, 1))
        three = one(*two[1], take(0, 1, samples.alike(1, 2, wait())))
        self.are(main(two), main(three), "early", all_joinings(2))
        self.are(main(two), main(three), "late", ())

    def test_against_each_joining_by_itself(self):
        seen = set()
        for first, second, names in few_names(301, 90):
            for likeness in FOUR:
                told = tuple(joining for joining in all_joinings(len(names))
                             if are_alike(first, second, likeness, told_given(names, joining)))
                seen.add((len(told) == 0, len(told) == len(all_joinings(len(names)))))
                self.are(first, second, likeness, told)
        self.assertLessEqual({(True, False), (False, False), (False, True)}, seen)

    def test_what_integers_names_are_does_not_matter(self):
        chance = random.Random(302)
        for first, second, names in few_names(303, 40):
            for likeness in ("early", "weak"):
                row = tuple(chance.randrange(10) for _ in range(10))
                joining = tuple(min(place for place, each in enumerate(names) if row[each] == row[name]) for name in names)
                self.assertIs(are_alike(first, second, likeness, row), joining in alike_at(first, second, likeness))

    def test_5_and_6_names(self):
        five = main(beside(send(0, 1), send(2, 3), send(4, 4)))
        six = main(beside(send(0, 1), send(2, 3), send(4, 5)))
        for likeness in FOUR:
            self.refused(NoMove, {}, apart_joined, main(one(send(0, 1), send(2, 3), take(4, 0))), main(
                one(take(4, 0), send(2, 3), send(0, 1))), likeness)
            for asked in (alike_joined, apart_joined, alike_at, joined_paper):
                self.refused(TooGreat, {"most": 5}, asked, six, six, likeness)
                self.refused(TooGreat, {"most": 5}, asked, five, main(send(9, 9)), likeness)
            self.refused(TooGreat, {"most": 5}, is_joined_paper, six, six, likeness, None)
        self.assertEqual(len(alike_at(main(one(send(0, 1), send(2, 3), take(4, 0))), main(STOP), "early")), 0)
        self.assertIs(alike_joined(five, five, "late"), True)

    def test_none_is_looked_at_behind_the_first_apart(self):
        # If 5 and 6 are joined, there are no more than 60 standings; as they are, there are.
        great = unlike(5, 6, wait(beside(SIXTY, wait())))
        first = main(one(samples.alike(5, 6, send(7, 7)), great))
        for likeness in FOUR:
            # Ascending, 5 and 6 are one ahead of all joinings at which they are two.
            for asked in (alike_joined, apart_joined, joined_paper):
                self.refused(TooGreat, {"most": 60}, asked, first, main(send(7, 7)), likeness)
            self.refused(TooGreat, {"most": 60}, alike_at, first, main(send(6, 7)), likeness)
            self.assertIs(alike_joined(first, main(take(7, 7)), likeness), False)
            self.assert_same(apart_joined(first, main(take(7, 7)), likeness), (0, 0, 0))
            self.refused(Unlike, {"value": (0, 0, 0)}, joined_paper, first, main(take(7, 7)), likeness)
            self.refused(TooGreat, {"most": 60}, alike_at, first, main(take(7, 7)), likeness)

    def test_the_order_of_errors(self):
        great = main(beside(SIXTY, wait()))
        six = main(beside(send(0, 1), send(2, 3), send(4, 5)))
        for asked, more in ((alike_joined, ()), (apart_joined, ()), (alike_at, ()), (joined_paper, ()), (is_joined_paper, (((),),))):
            self.refused(BadPiece, {"path": (1,)}, asked, main(HOLE), None, None, *more)
            self.refused(BadProgram, {"place": ()}, asked, six, None, None, *more)
            self.refused(BadLikeness, {"value": None}, asked, six, great, None, *more)
            self.refused(TooGreat, {"most": 5}, asked, six, great, "late", *more)
            self.refused(TooGreat, {"most": 60}, asked, great, main(NINE), "late", *more)
            self.refused(TooGreat, {"most": 8}, asked, main(NINE), great, "weak", *more)
            for value in values_of_every_kind() + ["open", "Early", b"late", ("weak",)]:
                self.refused(BadLikeness, {"value": value}, asked, main(STOP), main(STOP), value, *more)
                if not isinstance(value, str):
                    with self.assertRaises((BadProgram, BadPiece, TooGreat)):
                        asked(value, main(STOP), "late", *more)
        for likeness in ("early", "late", "weak", "rooted"):
            for asked in (alike_joined, apart_joined, alike_at, joined_paper):
                self.refused(TooGreat, {"most": 1500}, asked, DENSE, DENSE, likeness)


class Papers(Case):

    def test_papers_are_those_of_each_joining(self):
        first, second = main(one(send(3, 4), wait())), main(one(wait(), send(3, 4), send(3, 4)))
        makers = {"early": lambda given: alike_paper(first, second, "early", given), "weak": lambda given: weak_paper(first, second, given),
                  "late": lambda given: alike_paper(first, second, "late", given),
                  "rooted": lambda given: rooted_paper(first, second, given)}
        for likeness, make in makers.items():
            self.assertEqual(joined_paper(first, second, likeness), (make((0, 1, 2, 3, 3, 5, 6, 7, 8, 9)), make(AS_IS)))

    def test_judged_as_each_likeness_does(self):
        first, second = main(send(3, 4, wait())), main(send(3, 4, wait()))
        for likeness in FOUR:
            paper = joined_paper(first, second, likeness)
            for other in FOUR:
                told = all(judge(first, second, other, item, given) for item, given in zip(
                    paper, (told_given((3, 4), (0, 0)), AS_IS)))
                self.assertIs(is_joined_paper(first, second, other, paper), told)
        # Without the first triple it is a rooted paper alone.
        rooted = tuple(item[1:] for item in joined_paper(first, second, "rooted"))
        self.assertEqual([is_joined_paper(first, second, likeness, rooted) for likeness in FOUR], [False, False, False, True])

    def test_bent_papers(self):
        first, second = main(send(3, 4)), main(one(send(3, 4), send(3, 4)))
        for likeness in FOUR:
            paper = joined_paper(first, second, likeness)
            self.assertEqual(len(paper), 2)
            self.assertIs(is_joined_paper(first, second, likeness, (paper[0] * 2, paper[1][::-1])), True)
            bent = [paper[:1], paper[1:], paper + paper[:1], paper[::-1], list(paper), (paper[0], ()), ((), paper[1]), (paper[0], None),
                    (None, paper[1]), (paper[0], list(paper[1])), (list(paper[0]), paper[1]), (paper[0], paper[1] + (None,)),
                    (paper[0], Odd()), (paper,), (), (paper[0], True), tuple(paper[0]), (paper, paper), ((), ())]
            for value in bent + values_of_every_kind():
                self.assertIs(is_joined_paper(first, second, likeness, value), False, value)

    def test_a_paper_exactly_if_alike(self):
        for first, second, _ in few_names(311, 40):
            for likeness in FOUR:
                if alike_joined(first, second, likeness):
                    self.assertIs(is_joined_paper(first, second, likeness, joined_paper(first, second, likeness)), True)
                else:
                    self.refused(Unlike, {"value": apart_joined(first, second, likeness)}, joined_paper, first, second, likeness)

    def test_errors_up_to_the_first_thing_that_is_no_paper(self):
        # 60 standings if 5 and 6 are joined; else more.
        first = main(one(samples.alike(5, 6, send(7, 7)), unlike(5, 6, wait(beside(SIXTY, wait())))))
        second = main(send(7, 7))
        papers = tuple(alike_paper(first, second, "late", told_given((5, 6, 7), joining)) for joining in ((0, 0, 0), (0, 0, 2)))
        self.refused(TooGreat, {"most": 60}, is_joined_paper, first, second, "late", papers + (None, None, None))
        self.assertIs(is_joined_paper(first, second, "late", papers[:1] + (None,) * 4), False)
        self.assertIs(is_joined_paper(first, second, "late", (None,) * 5), False)
        self.assertIs(is_joined_paper(first, second, "late", papers), False)
        self.assertIs(is_joined_paper(first, second, "late", None), False)
        great = main(beside(SIXTY, wait()))
        for value in (None, (), ((), ()), [()]):
            self.assertIs(is_joined_paper(great, great, "late", value), False)
        self.refused(TooGreat, {"most": 60}, is_joined_paper, great, great, "late", (None,))
        six = main(beside(send(0, 1), send(2, 3), send(4, 5)))
        self.refused(TooGreat, {"most": 5}, is_joined_paper, six, great, "weak", None)

    def test_no_1500_triples_are_asked_for(self):
        self.assertIs(is_joined_paper(DENSE, DENSE, "late", (((0, 0, ()),),)), False)
        same = tuple((place, place, ()) for place in range(47))
        for likeness in FOUR:
            self.assertIs(is_joined_paper(DENSE, DENSE, likeness, (same,)), True)


def judge(first, second, likeness, paper, given):
    """Whether this is a paper for one joining."""
    if likeness == "weak":
        return is_weak_paper(first, second, paper, given)
    if likeness == "rooted":
        return is_rooted_paper(first, second, paper, given)
    return is_alike_paper(first, second, likeness, paper, given)


class Surroundings(Case):

    def test_surroundings_that_join(self):
        for names, joining, piece in (
                ((), (), HOLE), ((3,), (0,), HOLE), ((3, 4, 5), (0, 1, 2), HOLE),
                ((0, 1), (0, 0), new(2, beside(take(2, 1, HOLE), send(2, 0)))),
                ((3, 7), (0, 0), new(0, beside(take(0, 7, HOLE), send(0, 3)))),
                ((0, 1, 2), (0, 0, 0), new(3, beside(take(3, 1, take(3, 2, HOLE)), send(3, 0, send(3, 0))))),
                ((0, 2, 5), (0, 1, 1), new(1, beside(take(1, 5, HOLE), send(1, 2)))),
                ((1, 2, 3, 4, 5), (0, 1, 0, 1, 4), new(0, beside(take(0, 3, take(0, 4, HOLE)), send(0, 1, send(0, 2))))),
                ((0, 1, 2, 3, 4), (0, 0, 2, 2, 2), new(5, beside(take(5, 1, take(5, 3, take(5, 4, HOLE))),
                                                                 send(5, 0, send(5, 2, send(5, 2))))))):
            told = joining_surrounding(names, joining)
            self.assert_same(told, main(piece))
            self.assert_same(joining_surrounding(names=names, joining=joining), told)
            self.assertEqual(need_surrounding(told), told)
            self.assertLessEqual(set(names_over(told)), set(names) | set(range(10)))

    def test_put_into_it_a_program_first_joins_its_names(self):
        program = main(one(send(1, 2), samples.alike(1, 3, wait())))
        for joining in all_joinings(3):
            put = surrounded(joining_surrounding((1, 2, 3), joining), program)
            many = sum(first != place for place, first in enumerate(joining))
            standings, rows = graph(put)
            index = 0
            for _ in range(many):
                (action, ((index, _),)), = rows[index]
                self.assertEqual(action, ("wait",))
            self.assertEqual([action for action, _ in rows[index]],
                             [action for action, _ in graph(program, told_given((1, 2, 3), joining))[1][0]])

    def test_alike_at_a_joining_exactly_if_alike_in_it(self):
        seen = set()
        for first, second, names in few_names(321, 60):
            for joining in all_joinings(len(names)):
                around = joining_surrounding(tuple(names), joining)
                for likeness in ("early", "late", "weak"):
                    put = surrounded(around, first), surrounded(around, second)
                    told = joining in alike_at(first, second, likeness)
                    seen.add(told)
                    self.assertIs(are_alike(*put, likeness), told, (first, second, joining))
        self.assertEqual(seen, {True, False})

    def test_alike_however_joined_they_stay_so_in_surroundings(self):
        chance = random.Random(331)
        kept = 0
        for first, second, _ in few_names(332, 60):
            around = random_surrounding(chance)
            put = put_into(around, first, second)
            if put is None:
                continue
            for likeness in FOUR:
                if alike_joined(first, second, likeness):
                    kept += 1
                    self.assertIs(are_alike(*put, likeness), True, (first, second, around))
        self.assertGreater(kept, 40)

    def test_alike_as_they_are_they_stay_so_without_takes_around(self):
        chance = random.Random(333)
        kept = 0
        for first, second, _ in few_names(334, 60) + [(LEFT, RIGHT, ())] * 5:
            around = random_surrounding(chance, takes=False)
            put = put_into(around, first, second)
            if put is None:
                continue
            for likeness in FOUR:
                if are_alike(first, second, likeness):
                    kept += 1
                    self.assertIs(are_alike(*put, likeness), True, (first, second, around))
        self.assertGreater(kept, 40)

    def test_a_take_around_joins_names(self):
        around = main(take(0, 1, HOLE))
        self.assertIs(alike(surrounded(around, LEFT), surrounded(around, RIGHT), "late"), False)
        self.assertEqual(free_names(surrounded(around, LEFT)), (0,))


def random_surrounding(chance, takes=True):
    """A surrounding with a hole a few pieces deep."""
    piece = HOLE
    for _ in range(chance.randrange(1, 4)):
        kinds = [lambda inner: send(chance.randrange(3), chance.randrange(3), inner), lambda inner: wait(inner),
                 lambda inner: new(chance.randrange(3), inner),
                 lambda inner: beside(random_piece(chance, 2, 0), inner),
                 lambda inner: one(wait(inner), send(0, 1))]
        if takes:
            kinds += [lambda inner: take(chance.randrange(3), chance.randrange(4), inner)] * 3
        piece = chance.choice(kinds)(piece)
    return main(piece)


def put_into(around, *programs):
    """The programs in a surrounding, None if they are too great then."""
    try:
        put = [surrounded(around, program) for program in programs]
    except TooGreat:
        return None
    return put if is_small(*put, most=30) else None
