"""Points 6, 8 and 15: offers, meetings, moves, their rests and KEYS, actions, standings that are stuck."""

from passednames.errors import BadPiece, BadStanding, TooGreat
from passednames.moving import actions, is_stuck, moves
from passednames.names import AS_IS
from passednames.standings import need_standing, start
from tests import oracle
from tests.samples import (Case, STOP, alike, beside, call, main, new, one, random_programs, send, take, unlike,
                           values_of_every_kind, wait)

EXAMPLE = main(("new", 0, ("beside", (("send", 3, 0, ("one", ())), ("take", 0, 1, ("one", ()))))))
NOTHING = (0, 0, ())
END = (NOTHING, ())
WAIT = ("wait",)


def first_moves(piece, given=AS_IS, *definitions):
    """The moves of the first standing of a program with this MAIN."""
    program = main(piece, *definitions)
    return moves(program, start(program, given)[0])


class Moves(Case):

    def gives(self, piece, *wanted, given=AS_IS, definitions=()):
        self.assert_same(first_moves(piece, given, *definitions), wanted)

    def test_the_example(self):
        standing = start(EXAMPLE)[0]
        self.assert_same(moves(EXAMPLE, standing),
                         ((("open", 0), (((1, 0, (((1, 2, 1, 1), (0,)),)), (1,)),)),))
        self.assert_same(actions(EXAMPLE, standing), (("open", 0),))
        self.assertIs(is_stuck(EXAMPLE, standing), False)
        self.assert_same(moves(program=EXAMPLE, standing=standing), moves(EXAMPLE, standing))

    def test_nothing(self):
        for piece in (STOP, beside(), beside(STOP, STOP), new(1, STOP), new(1, send(1, 2)), new(1, take(1, 2))):
            self.gives(piece)

    def test_wait(self):
        self.gives(wait(), (WAIT, (END,)))
        self.gives(wait(send(5, 3)), (WAIT, (((2, 0, (((1, 1), (0, 1)),)), (0, 1)),)))
        self.gives(beside(wait(), wait(wait())),
                   (WAIT, (((0, 0, (((1, 1, 0), ()), ((1, 1, 1, 1), ()))), ()),)),
                   (WAIT, (((0, 0, (((1, 1, 1), ()),)), ()),)))

    def test_send(self):
        self.gives(send(2, 7), (("send", 0, 1), (END,)))
        self.gives(send(7, 2), (("send", 1, 0), (END,)))
        self.gives(send(7, 7), (("send", 0, 0), (END,)))
        self.gives(send(7, 2), (("send", 0, 0), (END,)), given=(3,) * 10)
        self.gives(send(2, 7, send(7, 8)), (("send", 0, 1), (((2, 0, (((1, 3), (0, 1)),)), (1, 2)),)))

    def test_open(self):
        self.gives(new(5, send(3, 5)), (("open", 0), (END,)))
        self.gives(new(5, send(3, 5, send(5, 3))),
                   (("open", 0), (((2, 0, (((1, 2, 3), (0, 1)),)), (0, 1)),)))
        self.gives(new(1, send(3, 1, send(1, 3))),
                   (("open", 0), (((2, 0, (((1, 2, 3), (0, 1)),)), (1, 0)),)))

    def test_what_is_opened_is_known_in_keys(self):
        # Own names 1 and 2; the greater one is opened, and is KNOWN, which is 1, in KEYS.
        piece = new(0, new(1, beside(send(3, 0), send(3, 1, send(1, 0)))))
        self.gives(
            piece,
            (("open", 0), (((2, 1, (((1, 2, 2, 1, 0), (2, 0)), ((1, 2, 2, 1, 1, 3), (2, 1)))), (0, 1)),)),
            (("open", 0), (((2, 1, (((1, 2, 2, 1, 1), (0, 2, 1)),)), (1, 0)),)),
        )

    def test_own_names_are_for_meetings_alone(self):
        self.gives(new(1, send(1, 3)))
        self.gives(new(1, take(1, 3, send(3, 3))))
        self.gives(new(1, beside(send(1, 3), take(1, 4, send(4, 4)))),
                   (WAIT, (((1, 0, (((1, 2, 1, 1, 3), (0,)),)), (0,)),)))

    def test_take(self):
        self.gives(take(6, 2), (("take", 0), (END, END)))
        self.gives(take(6, 2, send(2, 2)), (("take", 0), (
            ((1, 0, (((1, 3), (0,)),)), (0,)), ((1, 0, (((1, 3), (0,)),)), (1,)))))
        self.gives(take(6, 7, send(7, 6)), (("take", 0), (
            ((1, 0, (((1, 3), (0, 0)),)), (0,)), ((2, 0, (((1, 3), (0, 1)),)), (0, 1)))))
        self.gives(take(6, 5, send(5, 6)), (("take", 0), (
            ((1, 0, (((1, 3), (0, 0)),)), (0,)), ((2, 0, (((1, 3), (0, 1)),)), (1, 0)))))
        self.gives(take(6, 6, send(6, 6)), (("take", 0), (
            ((1, 0, (((1, 3), (0,)),)), (0,)), ((1, 0, (((1, 3), (0,)),)), (1,)))))

    def test_take_for_each_known_number(self):
        self.gives(take(6, 2, send(2, 9, send(8, 8))), (("take", 0), (
            ((3, 0, (((1, 3), (0, 1, 2)),)), (0, 1, 2)), ((2, 0, (((1, 3), (0, 0, 1)),)), (1, 2)),
            ((2, 0, (((1, 3), (0, 1, 0)),)), (2, 1)), ((3, 0, (((1, 3), (0, 1, 2)),)), (3, 1, 2)))))

    def test_own_names_are_not_taken_from_outside(self):
        piece = new(1, take(6, 2, beside(send(2, 1), send(6, 6))))
        (action, rests), = first_moves(piece)
        self.assertEqual(action, ("take", 0))
        self.assert_same(rests, (
            ((1, 1, (((1, 2, 3, 1, 0), (1, 0)), ((1, 2, 3, 1, 1), (0,)))), (0,)),
            ((2, 1, (((1, 2, 3, 1, 0), (2, 0)), ((1, 2, 3, 1, 1), (1,)))), (1, 0))))

    def test_meetings(self):
        rest = ((1, 0, (((1, 1, 1, 3), (0,)),)), (1,))
        self.gives(
            beside(send(3, 4), take(3, 5, send(5, 5))),
            (("send", 0, 1), (((1, 0, (((1, 1, 1), (0,)),)), (0,)),)),
            (("take", 0), (((2, 0, (((1, 1, 0), (0, 1)), ((1, 1, 1, 3), (0,)))), (0, 1)),
                           ((2, 0, (((1, 1, 0), (0, 1)), ((1, 1, 1, 3), (1,)))), (0, 1)),
                           ((3, 0, (((1, 1, 0), (0, 1)), ((1, 1, 1, 3), (2,)))), (0, 1, 2)))),
            (WAIT, (rest,)))

    def test_both_go_on_in_their_places(self):
        piece = new(0, beside(take(0, 1, beside(send(1, 1), wait())), wait(), send(0, 3, beside(wait(), STOP, send(3, 4)))))
        self.assertIn((WAIT, (((2, 0, (((1, 2, 1, 0, 3, 1, 0), (0,)), ((1, 2, 1, 0, 3, 1, 1), ()), ((1, 2, 1, 1), ()),
                                       ((1, 2, 1, 2, 3, 1, 0), ()), ((1, 2, 1, 2, 3, 1, 2), (0, 1)))), (0, 1)),)),
                      first_moves(piece))

    def test_an_own_name_passes_in_a_meeting_and_stays_own(self):
        piece = new(0, new(1, beside(send(0, 1, send(1, 3)), take(0, 2, send(3, 2)))))
        self.gives(piece, (WAIT, (((1, 1, (((1, 2, 2, 1, 0, 3), (1, 0)), ((1, 2, 2, 1, 1, 3), (1, 0)))), (0,)),)))

    def test_no_thread_meets_itself(self):
        self.gives(new(0, one(send(0, 0), take(0, 1))))
        self.assertNotIn(WAIT, [action for action, _ in first_moves(one(send(0, 0), take(0, 1)))])

    def test_meetings_of_branches_of_ones(self):
        piece = new(0, beside(one(send(0, 3, wait()), take(0, 1, send(1, 1))), one(take(0, 2, send(2, 4)), send(0, 4))))
        self.gives(
            piece,
            (WAIT, (((1, 0, (((1, 2, 1, 0, 1, 1, 3), (0,)),)), (1,)),)),
            (WAIT, (((2, 0, (((1, 2, 1, 0, 1, 0, 3), ()), ((1, 2, 1, 1, 1, 0, 3), (0, 1)))), (0, 1)),)))

    def test_three_threads_meet_two_by_two(self):
        piece = new(0, beside(send(0, 1), take(0, 2, send(2, 2)), send(0, 3)))
        self.gives(
            piece,
            (WAIT, (((2, 1, (((1, 2, 1, 0), (2, 0)), ((1, 2, 1, 1, 3), (1,)))), (0, 1)),)),
            (WAIT, (((2, 1, (((1, 2, 1, 1, 3), (0,)), ((1, 2, 1, 2), (2, 1)))), (0, 1)),)))

    def test_different_names_do_not_meet(self):
        self.assertNotIn(WAIT, [action for action, _ in first_moves(beside(send(1, 3), take(2, 3)))])
        self.assertIn(WAIT, [action for action, _ in first_moves(beside(send(1, 3), take(2, 3)), (5,) * 10)])
        self.gives(new(1, new(2, beside(send(1, 3), take(2, 3)))))
        self.assertEqual([action for action, _ in first_moves(new(1, beside(send(1, 3), take(2, 3))))], [("take", 1)])

    def test_tests(self):
        self.gives(alike(1, 1, wait()), (WAIT, (END,)))
        self.gives(unlike(1, 1, wait()))
        self.gives(alike(1, 2, wait()))
        self.gives(unlike(1, 2, wait()), (WAIT, (END,)))
        self.gives(alike(1, 2, wait()), (WAIT, (END,)), given=(4,) * 10)
        self.gives(unlike(1, 2, wait()), given=(4,) * 10)
        self.gives(new(1, alike(1, 2, wait())))
        self.gives(new(1, unlike(1, 2, wait())), (WAIT, (END,)))
        self.gives(new(1, alike(1, 1, wait())), (WAIT, (END,)))
        self.gives(new(1, new(2, unlike(1, 2, wait()))), (WAIT, (END,)))
        self.gives(new(1, new(2, alike(1, 2, wait()))))

    def test_all_tests_ahead_are_passed(self):
        self.gives(unlike(1, 2, alike(3, 3, unlike(2, 3, send(1, 3)))), (("send", 0, 2), (END,)))
        self.gives(unlike(1, 2, alike(3, 3, unlike(3, 3, send(1, 3)))))
        self.gives(alike(1, 2, alike(3, 3, wait())))
        self.gives(one(alike(0, 1, wait(send(3, 3))), unlike(0, 1, wait(send(4, 4))), alike(0, 0, send(0, 1))),
                   (("send", 0, 1), (END,)), (WAIT, (((1, 0, (((1, 1, 1, 3, 1), (0,)),)), (3,)),)))

    def test_tests_of_what_has_been_taken(self):
        piece = take(0, 1, alike(1, 2, wait()))
        program = main(piece)
        (_, rests), = first_moves(piece)
        self.assertEqual([actions(program, rest) for rest, _ in rests], [(), (WAIT,), ()])

    def test_one_offers_each_of_its_branches(self):
        self.gives(one(wait(wait()), send(0, 1), take(1, 0, wait()), wait()),
                   (("send", 0, 1), (END,)),
                   (("take", 1), (((0, 0, (((1, 1, 2, 3), ()),)), ()),) * 3),
                   (WAIT, (END,)), (WAIT, (((0, 0, (((1, 1, 0, 1), ()),)), ()),)))

    def test_equal_moves_are_one(self):
        self.gives(one(wait(), wait(), wait()), (WAIT, (END,)))
        self.gives(beside(send(0, 1), STOP), (("send", 0, 1), (END,)))
        self.assertEqual(len(first_moves(one(send(0, 1), send(0, 1), send(1, 0)))), 2)
        self.assertEqual(len(first_moves(one(wait(wait()), wait(wait())))), 2)

    def test_ascending(self):
        for program in random_programs(30, 60):
            try:
                row = moves(program, start(program)[0])
            except TooGreat:
                continue
            self.assertEqual(row, tuple(sorted(set(row))))
        self.assertEqual([action for action, _ in first_moves(new(9, one(
            wait(), take(1, 2), send(1, 0), send(0, 9), send(0, 1), take(0, 2), send(1, 9), send(0, 0))))],
            [("open", 0), ("open", 1), ("send", 0, 0), ("send", 0, 1), ("send", 1, 0), ("take", 0), ("take", 1), WAIT])

    def test_opening_behind(self):
        self.gives(send(3, 3, beside(new(1, send(1, 3)), new(1, send(3, 1)), STOP)),
                   (("send", 0, 0), (((1, 2, (((1, 3, 1, 0, 2), (1, 0)), ((1, 3, 1, 1, 2), (2, 0)))), (0,)),)))

    def test_new_names_of_two_that_meet_are_two(self):
        piece = new(0, beside(send(0, 5, new(1, send(5, 1))), take(0, 5, new(1, send(5, 1)))))
        self.gives(piece, (WAIT, (((1, 2, (((1, 2, 1, 0, 3, 2), (1, 0)), ((1, 2, 1, 1, 3, 2), (2, 0)))), (0,)),)))

    def test_a_new_name_is_no_stranger(self):
        piece = take(5, 3, new(1, send(3, 1)))
        self.gives(piece, (("take", 0), (((1, 1, (((1, 3, 2), (1, 0)),)), (0,)), ((1, 1, (((1, 3, 2), (1, 0)),)), (1,)))))

    def test_calls_behind(self):
        definition = ((0, 1), take(0, 2, call(0, 2, 1)))
        self.gives(
            call(0, 4, 3),
            (("take", 0), (((2, 0, (((0, 0, 1), (0, 1)),)), (0, 1)), ((1, 0, (((0, 0, 1), (0, 0)),)), (1,)),
                           ((2, 0, (((0, 0, 1), (0, 1)),)), (2, 1)))),
            definitions=(definition,))

    def test_a_call_with_exchanged_names(self):
        definition = ((0, 1), send(0, 1, call(0, 1, 0)))
        program = main(call(0, 4, 3), definition)
        standing, keys = start(program)
        self.assertEqual((standing, keys), ((2, 0, (((0, 0, 1), (0, 1)),)), (4, 3)))
        self.assert_same(moves(program, standing), ((("send", 0, 1), ((standing, (1, 0)),)),))

    def test_names_are_forgotten(self):
        piece = send(1, 2, send(2, 3, send(2, 2)))
        program = main(piece)
        standing = start(program)[0]
        for wanted in (3, 2, 1, 0):
            self.assertEqual(standing[0], wanted)
            if wanted:
                (_, ((standing, keys),)), = moves(program, standing)

    def test_other_programs(self):
        for program in random_programs(31, 120):
            for given in (AS_IS, (0, 0, 1, 1, 2, 2, 3, 3, 4, 4)):
                found = oracle.outcome(start, program, given)
                if found[0] == "too great":
                    continue
                self.assertEqual(oracle.outcome(moves, program, found[0]), oracle.outcome(oracle.moves, program, found[0]))

    def test_rests_are_standings(self):
        for program in random_programs(32, 40):
            standing = start(program)[0]
            for _, rests in oracle.outcome(moves, program, standing):
                if not isinstance(rests, tuple):
                    continue
                for rest, keys in rests:
                    self.assertEqual(need_standing(program, rest), rest)
                    self.assertEqual(len(keys), rest[0])
                    self.assertEqual(len(set(keys)), len(keys))


FOUR = beside(wait(), wait(), wait(), wait())
ALL_TEN = send(0, 1, send(2, 3, send(4, 5, send(6, 7, send(8, 9)))))


class Bounds(Case):

    def test_eight_and_nine_threads(self):
        for ahead in (wait, lambda p: send(0, 1, p), lambda p: take(0, 1, p), lambda p: new(1, send(0, 1, p))):
            first_moves(beside(ahead(FOUR), FOUR))
            program = main(beside(ahead(FOUR), FOUR, wait()))
            standing = start(program)[0]
            for asked in (moves, actions, is_stuck):
                self.refused(TooGreat, {"most": 8}, asked, program, standing)
        first_moves(new(0, beside(send(0, 1, FOUR), take(0, 1, FOUR))))
        program = main(new(0, beside(send(0, 1, FOUR), take(0, 1, beside(FOUR, wait())))))
        self.refused(TooGreat, {"most": 8}, moves, program, start(program)[0])

    def with_names(self, many, ahead=wait):
        """A program with a move to so many names, from 10 on, and no more at first."""
        piece = send(0, 0)
        for name in range(many - 10):
            piece = new(name, beside(send(name, name), piece) if name == 0 else beside(piece, send(name, name)))
        return main(beside(ALL_TEN, ahead(piece)))

    def test_twelve_and_thirteen_names(self):
        for ahead in (wait, lambda p: send(0, 1, p)):
            program = self.with_names(12, ahead)
            self.assertEqual(max(rest[0] + rest[1] for _, rests in moves(program, start(program)[0])
                                 for rest, _ in rests), 12)
            program = self.with_names(13, ahead)
            for asked in (moves, actions, is_stuck):
                self.refused(TooGreat, {"most": 12}, asked, program, start(program)[0])

    def test_the_stranger_counts_where_it_stands(self):
        two_new = lambda p: beside(ALL_TEN, new(1, new(2, wait(send(1, 2)))), p)
        moves(main(two_new(take(0, 1))), start(main(two_new(take(0, 1))))[0])
        program = main(two_new(take(0, 1, send(1, 1))))
        self.refused(TooGreat, {"most": 12}, moves, program, start(program)[0])

    def test_of_several_rests_threads_come_first(self):
        names = wait(new(0, new(1, new(2, send(0, 1, send(2, 2))))))
        many = wait(beside(FOUR, beside(wait(), wait(), wait(), wait())))
        for pieces in ((names, many), (many, names)):
            program = main(beside(ALL_TEN, *pieces))
            self.refused(TooGreat, {"most": 8}, moves, program, start(program)[0])
            program = main(beside(ALL_TEN, one(*pieces)))
            self.refused(TooGreat, {"most": 8}, moves, program, start(program)[0])
        program = main(beside(ALL_TEN, names))
        self.refused(TooGreat, {"most": 12}, moves, program, start(program)[0])

    def test_only_rests_of_moves_count(self):
        many = beside(FOUR, FOUR, wait())
        for piece in (alike(0, 1, wait(many)), new(0, send(0, 1, many)), new(0, take(0, 1, many)), unlike(1, 1, wait(many))):
            self.assertEqual(first_moves(piece), ())


class Wrong(Case):

    def test_standings_are_checked(self):
        program = main(beside(send(0, 1), wait()))
        for asked in (moves, actions, is_stuck):
            for value in values_of_every_kind() + [(0, 0), [0, 0, ()]]:
                self.refused(BadStanding, {"place": ()}, asked, program, value)
                self.refused(BadPiece, {"path": (1,)}, asked, main(None), value)
                if not (isinstance(value, int) and not isinstance(value, bool) and value >= 0):
                    self.refused(BadStanding, {"place": (0,)}, asked, program, (value, None, None))
                    self.refused(BadStanding, {"place": (1,)}, asked, program, (13, value, None))
                    self.refused(BadStanding, {"place": (2, 0)}, asked, program, (0, 0, (value,)))
                if not isinstance(value, tuple):
                    self.refused(BadStanding, {"place": (2,)}, asked, program, (0, 0, value))
            self.refused(TooGreat, {"most": 12}, asked, program, (13, 0, None))
            self.refused(TooGreat, {"most": 8}, asked, program, (0, 0, (((1, 1, 1), ()),) * 9))
            self.refused(BadStanding, {"place": (2, 1)}, asked, program, (0, 0, (((1, 1, 1), ()), ((1, 1, 0, 3), ()))))
            self.refused(BadStanding, {"place": ()}, asked, program, (2, 0, (((1, 1, 0), (1, 0)),)))


class Stuck(Case):

    def test_actions(self):
        program = main(new(9, one(wait(), wait(wait()), take(1, 2), send(1, 0), send(0, 9), send(0, 9, wait()), send(0, 1))))
        self.assert_same(actions(program, start(program)[0]),
                         (("open", 0), ("send", 0, 1), ("send", 1, 0), ("take", 1), WAIT))
        self.assert_same(actions(main(STOP), NOTHING), ())

    def test_stuck(self):
        self.assertIs(is_stuck(main(STOP), NOTHING), True)
        for piece, wanted in ((wait(), False), (new(1, send(1, 2)), True), (alike(1, 2, wait()), True), (send(1, 2), False),
                              (take(1, 2), False), (unlike(1, 2, wait()), False), (new(1, new(2, send(1, 2))), True)):
            program = main(piece)
            self.assertIs(is_stuck(program, start(program)[0]), wanted)
            self.assertIs(is_stuck(program=program, standing=start(program)[0]), wanted)
