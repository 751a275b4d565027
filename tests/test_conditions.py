"""Points 16 and 17: joinings, joined standings, conditions and cases."""

import itertools
import random

from passednames.conditions import all_joinings, cases, holds_joined, joined, need_joining
from passednames.errors import BadJoining, BadParameter, BadPiece, BadStanding, TooGreat
from passednames.moving import moves
from passednames.names import AS_IS
from passednames.standings import need_standing, settled, start
from tests import oracle
from tests.samples import (Case, STOP, Odd, alike, beside, main, new, one, random_programs, send, take, unlike,
                           values_of_every_kind, wait)

WAIT = ("wait",)
END = ((0, 0, ()), ())


def is_joining(row):
    """Whether these integers are a joining, as directly as can be."""
    return all(0 <= first <= place and row[first] == first for place, first in enumerate(row))


def plain_joinings(many):
    return [row for row in itertools.product(range(many), repeat=many) if is_joining(row)]


class Joinings(Case):

    def test_good_ones(self):
        for many in range(6):
            for row in plain_joinings(many):
                self.assert_same(need_joining(many, row), row)
        self.assert_same(need_joining(many=0, value=()), ())
        self.assert_same(need_joining(12, tuple(range(12))), tuple(range(12)))
        self.assert_same(need_joining(12, (0,) * 12), (0,) * 12)
        self.assert_same(need_joining(12, (0, 1, 0, 1, 4, 5, 4, 7, 8, 8, 10, 1)), (0, 1, 0, 1, 4, 5, 4, 7, 8, 8, 10, 1))

    def test_all_others_are_none(self):
        for row in itertools.product(range(-1, 4), repeat=3):
            if is_joining(row):
                self.assertEqual(need_joining(3, row), row)
            else:
                self.refused(BadJoining, {"value": row}, need_joining, 3, row)

    def test_values_of_every_kind(self):
        for value in values_of_every_kind() + [
            3, (), (0,), (0, 1, 2), [0, 1], (0, True), (False, 1), (0.0, 1), (0, None), (0, Odd()), (1, 1), (0, 2), (0, -1), "01",
            range(2), {0: 0, 1: 1}, ((0,), (1,)),
        ]:
            self.refused(BadJoining, {"value": value}, need_joining, 2, value)

    def test_how_many(self):
        for many in values_of_every_kind() + [13, -1, 2.0, (2,), "2"]:
            if isinstance(many, int) and not isinstance(many, bool) and 0 <= many <= 12:
                continue
            self.refused(BadParameter, {"value": many}, need_joining, many, (0, 0))
            self.refused(BadParameter, {"value": many}, need_joining, many, None)
        self.refused(BadParameter, {"value": 13}, need_joining, 13, tuple(range(13)))
        self.refused(BadJoining, {"value": None}, need_joining, 12, None)
        self.refused(BadJoining, {"value": (0,)}, need_joining, 0, (0,))
        self.refused(BadJoining, {"value": ()}, need_joining, 1, ())

    def test_all(self):
        self.assert_same(all_joinings(0), ((),))
        self.assert_same(all_joinings(1), ((0,),))
        self.assert_same(all_joinings(2), ((0, 0), (0, 1)))
        self.assert_same(all_joinings(3), ((0, 0, 0), (0, 0, 2), (0, 1, 0), (0, 1, 1), (0, 1, 2)))
        self.assertEqual([len(all_joinings(many)) for many in range(6)], [1, 1, 2, 5, 15, 52])
        for many in range(6):
            self.assert_same(all_joinings(many=many), tuple(plain_joinings(many)))

    def test_all_of_too_many(self):
        for many in (6, 7, 13, 10 ** 30):
            self.refused(TooGreat, {"most": 5}, all_joinings, many)
        for many in values_of_every_kind() + [(2,), "2", 2.0, -1]:
            if isinstance(many, int) and not isinstance(many, bool) and many >= 0:
                continue
            self.refused(BadParameter, {"value": many}, all_joinings, many)


PAIRS = main(beside(send(0, 1, send(2, 3)), new(9, send(9, 3)), take(1, 4)))


class Joined(Case):

    def test_joined(self):
        standing, keys = start(PAIRS)
        a, b, c = (1, 1, 0), (1, 1, 1, 2), (1, 1, 2)
        self.assert_same((standing, keys), ((4, 1, ((a, (0, 1, 2, 3)), (b, (3, 4)), (c, (1,)))), (0, 1, 2, 3)))
        for joining, wanted in (
            ((0, 1, 2, 3), (standing, (0, 1, 2, 3))),
            ((0, 0, 2, 3), ((3, 1, ((a, (0, 0, 1, 2)), (b, (2, 3)), (c, (0,)))), (0, 2, 3))),
            ((0, 1, 1, 3), ((3, 1, ((a, (0, 1, 1, 2)), (b, (2, 3)), (c, (1,)))), (0, 1, 3))),
            ((0, 1, 0, 1), ((2, 1, ((a, (0, 1, 0, 1)), (b, (1, 2)), (c, (1,)))), (0, 1))),
            ((0, 1, 2, 0), ((3, 1, ((a, (0, 1, 2, 0)), (b, (0, 3)), (c, (1,)))), (0, 1, 2))),
            ((0, 0, 0, 0), ((1, 1, ((a, (0, 0, 0, 0)), (b, (0, 1)), (c, (0,)))), (0,))),
        ):
            self.assert_same(joined(PAIRS, standing, joining), wanted)
            self.assert_same(joined(program=PAIRS, standing=standing, joining=joining), wanted)

    def test_own_names_stay(self):
        program = main(new(1, new(2, send(1, 0, send(2, 3)))))
        standing = start(program)[0]
        self.assert_same(standing, (2, 2, (((1, 2, 2), (0, 2, 3, 1)),)))
        self.assert_same(joined(program, standing, (0, 0)), ((1, 2, (((1, 2, 2), (0, 1, 2, 0)),)), (0,)))

    def test_of_nothing(self):
        self.assert_same(joined(main(STOP), (0, 0, ()), ()), END)

    def test_errors(self):
        standing = start(PAIRS)[0]
        for value in values_of_every_kind() + [(), (0, 1, 2), (0, 1, 2, 3, 4), (0, 1, 2, 4), [0, 1, 2, 3], (0, 0, 1, 3), (0, True, 2, 3)]:
            self.refused(BadJoining, {"value": value}, joined, PAIRS, standing, value)
            self.refused(BadStanding, {"place": ()}, joined, PAIRS, None, value)
            self.refused(BadPiece, {"path": (1,)}, joined, main(None), None, value)
        self.refused(BadStanding, {"place": (2,)}, joined, PAIRS, (0, 0, None), None)
        self.refused(TooGreat, {"most": 12}, joined, PAIRS, (13, 0, None), tuple(range(13)))

    def test_given_joined(self):
        # Joining the names of a standing is the same as to give them one integer at first.
        for program in random_programs(40, 60):
            standing, keys = start(program)
            for joining in plain_joinings(standing[0]):
                given = list(AS_IS)
                for place, first in enumerate(joining):
                    given[keys[place]] = keys[first]
                there, keys2 = joined(program, standing, joining)
                there3, keys3 = start(program, tuple(given))
                self.assertEqual((there, tuple(keys[key] for key in keys2)), (there3, keys3))

    def test_in_two_steps(self):
        for program in random_programs(41, 40):
            standing = start(program)[0]
            for first in plain_joinings(standing[0]):
                there, keys = joined(program, standing, first)
                for second in plain_joinings(there[0]):
                    there2, keys2 = joined(program, there, second)
                    block = {keys[place]: keys[second[place]] for place in range(len(keys))}
                    least = {}
                    once = []
                    for place in range(standing[0]):
                        once.append(least.setdefault(block[first[place]], place))
                    there3, keys3 = joined(program, standing, tuple(once))
                    self.assertEqual(there2, there3)
                    # The names come from the same blocks both ways.
                    self.assertEqual([once[keys[key]] for key in keys2], list(keys3))


class Holds(Case):

    def test_holds(self):
        for condition, wanted in (
            ((), [True] * 5),
            ((("alike", 0, 1),), [True, True, False, False, False]),
            ((("alike", 0, 2),), [True, False, True, False, False]),
            ((("alike", 1, 2),), [True, False, False, True, False]),
            ((("unlike", 0, 1),), [False, False, True, True, True]),
            ((("unlike", 1, 2),), [False, True, True, False, True]),
            ((("alike", 0, 1), ("alike", 0, 2)), [True, False, False, False, False]),
            ((("alike", 0, 1), ("unlike", 0, 2)), [False, True, False, False, False]),
            ((("alike", 0, 1), ("unlike", 0, 1)), [False] * 5),
            ((("unlike", 0, 1), ("unlike", 0, 2), ("unlike", 1, 2)), [False, False, False, False, True]),
        ):
            for joining, holds in zip(all_joinings(3), wanted):
                self.assertIs(holds_joined(condition, joining), holds)
                self.assertIs(holds_joined(condition=condition, joining=joining), holds)
        self.assertIs(holds_joined((), ()), True)
        self.assertIs(holds_joined((), (0,)), True)

    def test_no_condition(self):
        for value in values_of_every_kind() + [
            [("alike", 0, 1)], (("alike", 1, 0),), (("alike", 0, 0),), (("alike", 0, 3),), (("alike", -1, 0),), (("alike", 0),),
            (("alike", 0, 1, 2),), (("like", 0, 1),), (("wait",),), (["alike", 0, 1],), (("alike", False, 1),), (("alike", 0, True),),
            (("alike", 0.0, 1),), (("alike", 0, 1.0),), ((b"alike", 0, 1),), (("alike", 0, None),), (("alike", (0,), 1),),
            (("alike", 0, 1), ("alike", 0, 1)), (("alike", 0, 2), ("alike", 0, 1)), (("unlike", 0, 1), ("alike", 0, 2)),
            ("alike", 0, 1), (("alike", 0, 1), None), (None, ("alike", 0, 1)), ((Odd(), 0, 1),), (("alike", Odd(), 1),),
            (("alike", 0, Odd()),), (("unlike", 1, 2), ("unlike", 0, 1)), ((("alike", 0, 1),),), "alike",
        ]:
            if isinstance(value, tuple) and not value:
                continue
            self.refused(BadParameter, {"value": value}, holds_joined, value, (0, 1, 2))

    def test_over_the_things_of_the_joining(self):
        self.refused(BadParameter, {"value": (("alike", 0, 1),)}, holds_joined, (("alike", 0, 1),), (0,))
        self.refused(BadParameter, {"value": (("alike", 0, 1),)}, holds_joined, (("alike", 0, 1),), ())
        self.assertIs(holds_joined((("alike", 1, 3),), (0, 1, 2, 1)), True)

    def test_the_joining_first(self):
        for value in values_of_every_kind() + [(1,), (0, 2), (0, 1, 1.0), [0], (True,), (0, -1), (0, 0, 1)]:
            if isinstance(value, tuple) and not value:
                continue
            self.refused(BadJoining, {"value": value}, holds_joined, None, value)
            self.refused(BadJoining, {"value": value}, holds_joined, (), value)


def first_cases(piece, given=AS_IS):
    """The cases of the first standing of a program with this MAIN."""
    program = main(piece)
    return cases(program, start(program, given)[0])


class Cases(Case):

    def gives(self, piece, *wanted, given=AS_IS):
        self.assert_same(first_cases(piece, given), wanted)

    def test_the_example(self):
        program = main(("beside", (("send", 0, 1, ("one", ())), ("take", 2, 1, ("one", ())))))
        standing = start(program)[0]
        self.assert_same(standing, (3, 0, (((1, 1, 0), (0, 1)), ((1, 1, 1), (2,)))))
        self.assert_same(cases(program, standing), (
            ((), ("send", 0, 1), ((1, 0, (((1, 1, 1), (0,)),)), (2,))),
            ((), ("take", 2), ((2, 0, (((1, 1, 0), (0, 1)),)), (0, 1))),
            ((("alike", 0, 2),), WAIT, END)))
        self.assert_same(cases(program=program, standing=standing), cases(program, standing))

    def test_without_tests(self):
        self.gives(STOP)
        self.gives(wait(), ((), WAIT, END))
        self.gives(send(3, 3), ((), ("send", 0, 0), END))
        self.gives(new(1, send(3, 1, send(1, 1))), ((), ("open", 0), ((1, 0, (((1, 2, 3), (0,)),)), (1,))))
        self.gives(take(3, 1, send(1, 3)), ((), ("take", 0), ((2, 0, (((1, 3), (0, 1)),)), (1, 0))))

    def test_tests_of_known_numbers(self):
        self.gives(alike(4, 2, wait()), ((("alike", 0, 1),), WAIT, END))
        self.gives(unlike(4, 2, wait()), ((("unlike", 0, 1),), WAIT, END))
        self.gives(alike(2, 2, wait()), ((), WAIT, END))
        self.gives(unlike(2, 2, wait()))
        self.gives(alike(4, 2, wait()), ((), WAIT, END), given=(0,) * 10)
        self.gives(unlike(4, 2, wait()), given=(0,) * 10)

    def test_tests_of_own_names_are_decided(self):
        self.gives(new(1, alike(1, 2, wait())))
        self.gives(new(1, unlike(1, 2, wait())), ((), WAIT, END))
        self.gives(new(1, alike(1, 1, wait())), ((), WAIT, END))
        self.gives(new(1, unlike(1, 1, wait())))
        self.gives(new(1, new(2, alike(1, 2, wait()))))
        self.gives(new(1, new(2, unlike(1, 2, wait()))), ((), WAIT, END))

    def test_the_one_form(self):
        for tests, condition in (
            ([alike, 3, 2, alike, 1, 2, alike, 0, 3], (("alike", 0, 1), ("alike", 0, 2), ("alike", 0, 3))),
            ([alike, 3, 2, alike, 0, 1], (("alike", 0, 1), ("alike", 2, 3))),
            ([alike, 2, 1, unlike, 3, 2], (("alike", 1, 2), ("unlike", 1, 3))),
            ([unlike, 3, 2, alike, 2, 1, alike, 0, 3], (("alike", 0, 3), ("alike", 1, 2), ("unlike", 0, 1))),
            ([unlike, 3, 2, unlike, 2, 3, unlike, 2, 3], (("unlike", 2, 3),)),
            ([unlike, 3, 2, alike, 0, 0, unlike, 1, 0], (("unlike", 0, 1), ("unlike", 2, 3))),
            ([alike, 0, 1, unlike, 0, 2, unlike, 1, 2, unlike, 3, 1], (("alike", 0, 1), ("unlike", 0, 2), ("unlike", 0, 3))),
            ([alike, 1, 3, alike, 3, 2, alike, 2, 1], (("alike", 1, 2), ("alike", 1, 3))),
            ([alike, 1, 3, alike, 0, 3], (("alike", 0, 1), ("alike", 0, 3))),
            ([alike, 2, 3, alike, 1, 2, unlike, 3, 0], (("alike", 1, 2), ("alike", 1, 3), ("unlike", 0, 1))),
        ):
            branch = wait()
            for place in range(len(tests) - 3, -1, -3):
                branch = tests[place](tests[place + 1], tests[place + 2], branch)
            # The send ahead makes 0 to 3 the numbers of these names.
            found = first_cases(beside(send(0, 1, send(2, 3)), branch))
            self.assert_same([case[0] for case in found if case[1] == WAIT], [condition])

    def test_what_holds_at_no_joining_is_left_out(self):
        self.gives(alike(0, 1, unlike(0, 1, wait())))
        self.gives(unlike(0, 1, alike(1, 0, wait())))
        self.gives(alike(0, 1, alike(1, 2, unlike(2, 0, wait()))))
        self.gives(unlike(2, 0, alike(0, 1, alike(1, 2, wait()))))
        self.assertEqual([case[:2] for case in first_cases(beside(unlike(0, 1, send(0, 2)), take(1, 2)))],
                         [((), ("take", 1)), ((("unlike", 0, 1),), ("send", 0, 2))])

    def test_actions_have_the_numbers_of_the_branch(self):
        found = first_cases(alike(0, 1, send(1, 0)))
        self.assertEqual([case[:2] for case in found], [((("alike", 0, 1),), ("send", 1, 0))])
        found = first_cases(alike(0, 1, take(1, 2)))
        self.assertEqual([case[:2] for case in found], [((("alike", 0, 1),), ("take", 1))])
        found = first_cases(new(5, alike(0, 1, send(1, 5))))
        self.assertEqual([case[:2] for case in found], [((("alike", 0, 1),), ("open", 1))])

    def test_rests_are_not_joined(self):
        self.gives(alike(0, 1, wait(send(1, 0))), ((("alike", 0, 1),), WAIT, ((2, 0, (((1, 3, 1), (0, 1)),)), (0, 1))))

    def test_meetings(self):
        piece = beside(send(0, 1, wait()), take(2, 3, send(3, 3)), take(0, 3, send(3, 2)))
        found = [case for case in first_cases(piece) if case[1] == WAIT]
        self.assert_same(found, [
            ((), WAIT, ((2, 0, (((1, 1, 0, 3), ()), ((1, 1, 1), (0,)), ((1, 1, 2, 3), (0, 1)))), (2, 1))),
            ((("alike", 0, 2),), WAIT, ((3, 0, (((1, 1, 0, 3), ()), ((1, 1, 1, 3), (0,)), ((1, 1, 2), (1, 2)))), (1, 0, 2))),
        ])

    def test_meetings_with_tests_of_both(self):
        piece = beside(alike(3, 4, send(0, 1)), unlike(0, 3, take(2, 5)))
        found = [case[0] for case in first_cases(piece) if case[1] == WAIT]
        standing, keys = start(main(piece))
        self.assertEqual(keys, (0, 1, 3, 4, 2))
        self.assert_same(found, [(("alike", 0, 4), ("alike", 2, 3), ("unlike", 0, 2))])

    def test_meetings_on_own_names(self):
        self.gives(new(1, beside(send(1, 2), take(1, 3))), ((), WAIT, END))
        self.gives(new(1, new(2, beside(send(1, 3), take(2, 3)))))
        self.assertEqual([case[1] for case in first_cases(new(1, beside(send(1, 3), take(2, 3))))], [("take", 1)])
        self.assertEqual([case[1] for case in first_cases(new(1, beside(send(2, 3), take(1, 3))))], [("send", 0, 1)])
        self.gives(new(0, one(send(0, 0), take(0, 1))))
        self.assertEqual([case[:2] for case in first_cases(one(send(0, 0), take(1, 1)))],
                         [((), ("send", 0, 0)), ((), ("take", 1))])

    def test_ascending_and_unlike(self):
        self.gives(one(wait(), wait(), alike(0, 1, wait())), ((), WAIT, END), ((("alike", 0, 1),), WAIT, END))
        for program in random_programs(42, 40):
            try:
                found = cases(program, start(program)[0])
            except TooGreat:
                continue
            self.assertEqual(found, tuple(sorted(set(found))))
            for condition, _, (rest, keys) in found:
                self.assertEqual(condition, tuple(sorted(set(condition))))
                self.assertEqual(need_standing(program, rest), rest)
                self.assertEqual(len(keys), rest[0])

    def test_standings_are_checked(self):
        program = main(beside(send(0, 1), wait()))
        for value in values_of_every_kind():
            self.refused(BadStanding, {"place": ()}, cases, program, value)
            self.refused(BadStanding, {"place": (2, 0)}, cases, program, (0, 0, (value,)))
            self.refused(BadPiece, {"path": (1,)}, cases, main(None), value)
        self.refused(TooGreat, {"most": 12}, cases, program, (13, 0, None))
        self.refused(TooGreat, {"most": 8}, cases, program, (0, 0, (None,) * 9))
        self.refused(BadStanding, {"place": ()}, cases, program, (2, 0, (((1, 1, 0), (1, 0)),)))


FOUR = beside(wait(), wait(), wait(), wait())
MANY = beside(FOUR, FOUR, wait())
ALL_TEN = send(0, 1, send(2, 3, send(4, 5, send(6, 7, send(8, 9)))))
NAMES = new(0, new(1, new(2, send(0, 1, send(2, 2)))))


class Bounds(Case):

    def test_threads(self):
        for piece in (wait(MANY), alike(0, 1, wait(MANY)), unlike(0, 1, take(2, 3, MANY)), send(0, 1, MANY),
                      beside(send(0, 1, FOUR), take(2, 3, beside(FOUR, wait())))):
            program = main(piece)
            self.refused(TooGreat, {"most": 8}, cases, program, start(program)[0])
        self.assertEqual(len(first_cases(beside(send(0, 1, FOUR), take(2, 3, FOUR)))), 3)

    def test_names(self):
        for piece in (wait(NAMES), alike(0, 1, wait(NAMES))):
            program = main(beside(ALL_TEN, piece))
            self.refused(TooGreat, {"most": 12}, cases, program, start(program)[0])

    def test_threads_come_first(self):
        for pieces in ((wait(NAMES), alike(0, 1, wait(MANY))), (alike(0, 1, wait(MANY)), wait(NAMES))):
            program = main(beside(ALL_TEN, *pieces))
            self.refused(TooGreat, {"most": 8}, cases, program, start(program)[0])

    def test_cases_that_are_left_out_do_not_count(self):
        for rest in (MANY, beside(ALL_TEN, NAMES)):
            self.assertEqual(first_cases(alike(0, 1, unlike(1, 0, wait(rest)))), ())
            self.assertEqual(first_cases(unlike(2, 2, wait(rest))), ())
            self.assertEqual(first_cases(new(0, send(0, 1, rest))), ())

    def test_moves_do_not_ask_cases(self):
        program = main(alike(0, 1, wait(MANY)))
        self.assertEqual(moves(program, start(program)[0]), ())


def at_joining(program, standing, joining):
    """The moves of the joined standing, as they come from the cases whose condition holds."""
    there, keys = joined(program, standing, joining)
    number = {key: place for place, key in enumerate(keys)}
    known = standing[0]
    found = []
    for condition, action, (rest, rest_keys) in cases(program, standing):
        if not holds_joined(condition, joining):
            continue
        told = (action[0],) + tuple(number[joining[item]] for item in action[1:])

        def rest_with(taken):
            # Each known number of the rest becomes the least one of its block; what came up is taken.
            worth = [number[joining[key]] if key < known else taken for key in rest_keys]
            first = tuple(worth.index(item) for item in worth)
            after, after_keys = joined(program, rest, first)
            return after, tuple(worth[key] for key in after_keys)
        if action[0] == "take":
            found.append((told, tuple(rest_with(taken) for taken in range(there[0] + 1))))
        else:
            found.append((told, (rest_with(there[0]),)))
    return tuple(sorted(set(found)))


class Facts(Case):

    def check(self, program, standing):
        for joining in plain_joinings(standing[0]):
            there = joined(program, standing, joining)[0]
            self.assertEqual(at_joining(program, standing, joining), moves(program, there))
            self.assertEqual(moves(program, there), oracle.moves(program, there))

    def test_moves_of_a_joined_standing_are_those_of_the_cases(self):
        checked = 0
        for program in random_programs(43, 150, 6):
            try:
                standing = start(program)[0]
                cases(program, standing)
            except TooGreat:
                continue
            if standing[0] <= 4:
                checked += len(cases(program, standing))
                self.check(program, standing)
        self.assertGreater(checked, 150)

    def test_on_standings_further_on(self):
        for program in random_programs(44, 40):
            found = oracle.outcome(oracle.graph, program, AS_IS)
            if found[0] == "too great":
                continue
            for standing in found[0][:8]:
                if standing[0] <= 4 and oracle.outcome(cases, program, standing)[:1] != ("too great",):
                    self.check(program, standing)

    def test_on_programs_with_many_tests(self):
        chance = random.Random(45)
        for _ in range(40):
            branches = []
            for _ in range(3):
                branch = chance.choice([send(0, 1, send(2, 3)), take(1, 2, send(2, 0)), wait(send(1, 2)), send(2, 5), take(3, 5)])
                for _ in range(chance.randrange(4)):
                    branch = (chance.choice(["alike", "unlike"]), chance.randrange(4), chance.randrange(4), branch)
                branches.append(branch)
            program = main(new(5, beside(branches[0], one(*branches[1:]))))
            self.check(program, start(program)[0])

    def test_moves_hang_on_the_standing_alone(self):
        program = main(beside(send(0, 1, wait()), unlike(1, 2, take(2, 3, send(3, 3)))))
        standings = {start(program, given)[0]: moves(program, start(program, given)[0])
                     for given in itertools.permutations(AS_IS[:3])
                     for given in [given + (9,) * 7]}
        self.assertEqual(len(standings), 1)

    def test_settled_again(self):
        for program in random_programs(46, 30):
            standing = start(program)[0]
            known = tuple(range(standing[0]))
            self.assertEqual(settled(program, standing[2], known), (standing, known))
