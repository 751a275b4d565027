"""Point 56: names used once, lone steps, what is calmed, lone waits."""

import random

from passednames.errors import BadGiven, BadPiece, BadProgram, BadStanding, TooGreat
from passednames.graphs import graph
from passednames.names import AS_IS
from passednames.once import calmed, lone_news, lone_steps, lone_waits
from passednames.quiet import are_marks, idle_waits
from passednames.standings import start
from tests import oracle, samples
from tests.samples import (Case, HOLE, STOP, Odd, beside, call, circling_programs, main, near_programs, new, one, random_programs, send, take,
                           unlike, values_of_every_kind, wait, waits)
from tests.rowish import depth
from tests.sourced import Told
from tests.test_kinds import EXAMPLE, JOINED
from tests.test_likeness import NINE
from tests.test_sentences import BIG

# Two new names, each used once: the first meeting makes room for the second one.
TWO = main(new(1, new(2, beside(send(1, 0, send(2, 0)), take(1, 3, wait()), take(2, 3, send(3, 3))))))
# Five threads, and two that become four or five by their meeting.
FULL = beside(beside(wait(), wait()), beside(wait(), wait(), wait()))
NINE_BEHIND = main(new(1, beside(send(1, 1, beside(wait(), wait())), take(1, 2, beside(wait(), wait())), FULL)))
EIGHT_BEHIND = main(new(1, beside(send(1, 1, beside(wait(), wait())), take(1, 2, wait()), FULL)))
# Nine known names and one of its own, which becomes four or three by the meeting.
NAMES = send(0, 2, send(3, 4, send(5, 6, send(7, 8, send(9, 9)))))
THIRTEEN_BEHIND = main(new(1, beside(send(1, 0, new(2, send(2, 2))), take(1, 0, new(5, new(6, new(7, send(5, 6, send(7, 7)))))), NAMES)))
TWELVE_BEHIND = main(new(1, beside(send(1, 0, new(2, send(2, 2))), take(1, 0, new(5, new(6, send(5, 6)))), NAMES)))


def random_lone(chance):
    """A program with names that may be used once: threads that send and take on new names, and something more."""
    names = chance.sample(range(4, 9), chance.randrange(1, 4))
    threads = [[] for _ in range(chance.randrange(2, 4))]
    for name in names:
        for word in ("send", "take"):
            for _ in range(1 if chance.randrange(5) else 2):
                chance.choice(threads).append((word, name))
    pieces = []
    for steps in threads:
        piece = chance.choice((STOP, wait(), send(0, 1), take(0, 2, send(2, 1))))
        for word, name in steps:
            sent = chance.choice((0, 1, 1, name, chance.choice(names)))
            piece = send(name, sent, piece) if word == "send" else take(name, chance.choice((2, 3)), piece)
            around = chance.randrange(7)
            piece = {0: one(piece), 1: one(piece, wait()), 2: samples.alike(name, name, piece), 3: one(unlike(0, 1, piece))}.get(around, piece)
        pieces.append(piece)
    piece = beside(*pieces)
    for name in names:
        piece = new(name, piece)
    return main(piece)


def some_programs():
    """Programs of all kinds, many with names that are used once."""
    chance = random.Random(561)
    programs = [random_lone(chance) for _ in range(150)] + random_programs(562, 40) + circling_programs(563, 15)
    programs += [each for pair in near_programs(564, 20) for each in pair] + [EXAMPLE, TWO]
    programs = [program for program in programs if depth(program[1]) <= 12]
    return [program for program in programs if oracle.outcome(oracle.graph, program, AS_IS)[0] != "too great"]


class News(Case):

    def gives(self, piece, *told, given=AS_IS):
        self.assert_same(lone_news(main(piece), given), told)
        self.assert_same(lone_news(program=main(piece), given=given), told)

    def test_the_example(self):
        self.assert_same(lone_news(EXAMPLE), (((1,), (1, 2, 1, 0), (1, 2, 1, 1)),))
        self.assert_same(lone_news(TWO), (((1,), (1, 2, 2, 1, 0), (1, 2, 2, 1, 1)), ((1, 2), (1, 2, 2, 1, 0, 3), (1, 2, 2, 1, 2))))

    def test_only_one_send_and_one_take(self):
        self.gives(new(5, beside(send(5, 0), take(5, 1), take(5, 1))))
        self.gives(new(5, beside(send(5, 0), send(5, 0), take(5, 1))))
        self.gives(new(5, send(5, 0)))
        self.gives(new(5, take(5, 0)))
        self.gives(new(5, STOP))
        self.gives(beside(send(5, 0), take(5, 1)))
        # One behind the other, so that they never meet, are lone all the same.
        self.gives(new(5, send(5, 0, take(5, 1))), ((1,), (1, 2), (1, 2, 3)))
        # A send that can never be reached counts.
        self.gives(new(5, beside(send(5, 0), take(5, 1), unlike(0, 0, send(5, 0)))))

    def test_names_that_are_known(self):
        self.gives(new(5, beside(send(5, 0), take(5, 1), send(0, 5))))
        self.gives(new(5, beside(send(5, 5), take(5, 1, send(1, 0)))))
        self.gives(new(5, beside(send(5, 5), take(5, 1, wait()))), ((1,), (1, 2, 1, 0), (1, 2, 1, 1)))

    def test_channels_of_several_sources(self):
        # The X of the take may be either of two news.
        self.gives(new(4, new(5, new(6, beside(send(6, 4), send(6, 5), take(6, 1, send(1, 0)), take(4, 2))))))
        self.gives(new(4, new(6, beside(send(6, 4), take(6, 1, send(1, 0)), take(4, 2)))), ((1,), (1, 2, 2, 1, 1, 3), (1, 2, 2, 1, 2)),
                   ((1, 2), (1, 2, 2, 1, 0), (1, 2, 2, 1, 1)))

    def test_standing_alone(self):
        lone = ((1,), (1, 2, 1, 0), (1, 2, 1, 1))
        self.gives(new(5, beside(send(5, 0), take(5, 1))), lone)
        self.gives(new(5, beside(one(send(5, 0)), take(5, 1))), ((1,), (1, 2, 1, 0, 1, 0), (1, 2, 1, 1)))
        self.gives(new(5, beside(one(send(5, 0), wait()), take(5, 1))))
        self.gives(new(5, beside(send(5, 0), one(wait(), take(5, 1)))))
        self.gives(new(5, beside(samples.alike(0, 1, unlike(2, 3, send(5, 0))), take(5, 1))), ((1,), (1, 2, 1, 0, 3, 3), (1, 2, 1, 1)))
        self.gives(new(5, beside(one(samples.alike(0, 1, send(5, 0)), wait()), take(5, 1))))
        self.gives(new(5, beside(one(samples.alike(0, 1, send(5, 0))), take(5, 1))), ((1,), (1, 2, 1, 0, 1, 0, 3), (1, 2, 1, 1)))
        # Behind a branch of a one it stands alone again.
        self.gives(new(5, beside(one(wait(send(5, 0)), wait()), take(5, 1))), ((1,), (1, 2, 1, 0, 1, 0, 1), (1, 2, 1, 1)))

    def test_definitions(self):
        body = ((0,), wait(send(0, 0)))
        self.assert_same(lone_news(main(new(5, beside(call(0, 5), take(5, 1))), body)), ())
        self.assert_same(lone_news(main(call(0, 0), ((0,), wait(new(5, send(0, 0, send(5, 0, take(5, 1)))))))), ())
        self.assert_same(lone_news(main(new(5, beside(send(5, 0), take(5, 1))), ((0,), send(0, 0)))), (((1,), (1, 2, 1, 0), (1, 2, 1, 1)),))

    def test_with_a_second_telling(self):
        counted = 0
        for program in some_programs():
            for given in (AS_IS, JOINED):
                told = Told(program, given).lone_news()
                self.assert_same(lone_news(program, given), told)
                counted += len(told)
        self.assertGreater(counted, 100)

    def test_errors(self):
        for asked, args in ((lone_news, ()), (lone_steps, (None,)), (calmed, (None,)), (lone_waits, ())):
            self.refused(BadPiece, {"path": (1,)}, asked, main(HOLE), *args, None)
            self.refused(BadProgram, {"place": ()}, asked, None, *args, None)
            for value in values_of_every_kind():
                self.refused(BadGiven, {"value": value}, asked, EXAMPLE, *args, value)
                with self.assertRaises((BadProgram, BadPiece, TooGreat)):
                    asked(value, *args)
        self.refused(TooGreat, {"most": 8}, lone_waits, main(NINE))
        self.refused(TooGreat, {"most": 60}, lone_waits, BIG)
        self.assert_same(lone_news(BIG), ())


class Steps(Case):

    def test_the_example(self):
        standing = start(EXAMPLE)[0]
        rest = (1, 0, (((1, 2, 1, 1, 3), (0,)),))
        self.assert_same(lone_steps(EXAMPLE, standing), ((0, 1, (rest, (0,))),))
        self.assert_same(lone_steps(program=EXAMPLE, standing=standing, given=AS_IS), ((0, 1, (rest, (0,))),))
        self.assert_same(lone_steps(EXAMPLE, rest), ())
        self.assert_same(calmed(EXAMPLE, standing), (rest, (0,), 1))
        self.assert_same(calmed(program=EXAMPLE, standing=rest, given=AS_IS), (rest, (0,), 0))
        self.assert_same(lone_waits(EXAMPLE), ((0, 0),))
        self.assert_same(lone_waits(program=EXAMPLE, given=AS_IS), ((0, 0),))

    def test_two_in_turn(self):
        standing = start(TWO)[0]
        end, keys, count = calmed(TWO, standing)
        self.assertEqual(count, 2)
        self.assertEqual((end, keys), ((1, 0, (((1, 2, 2, 1, 1, 3), ()), ((1, 2, 2, 1, 2, 3), (0,)))), (0,)))
        self.assertEqual(len(lone_steps(TWO, standing)), 1)

    def test_tests_must_be_passed(self):
        program = main(new(5, beside(samples.alike(0, 1, send(5, 0)), unlike(0, 1, take(5, 2)))))
        self.assertEqual(len(lone_news(program)), 1)
        self.assertEqual(lone_steps(program, start(program)[0]), ())
        self.assertEqual(lone_steps(program, start(program, (0,) * 10)[0], (0,) * 10), ())
        program = main(new(5, beside(samples.alike(0, 1, send(5, 0)), samples.alike(1, 0, take(5, 2)))))
        self.assertEqual(lone_steps(program, start(program)[0]), ())
        self.assertEqual(len(lone_steps(program, start(program, JOINED)[0], JOINED)), 1)
        self.assertEqual(lone_waits(program), ())
        self.assertEqual(lone_waits(program, JOINED), ((0, 0),))

    def test_standings_to_which_nothing_leads(self):
        # Several threads of one part: each pair with one number for the channels meets.
        s, t = (1, 2, 1, 0), (1, 2, 1, 1)
        standing = (1, 2, ((s, (0, 1)), (t, (1,)), (s, (0, 2)), (t, (1,)), (t, (2,))))
        found = lone_steps(EXAMPLE, standing)
        self.assertEqual([(i, j) for i, j, _ in found], [(0, 1), (0, 3), (2, 4)])
        self.assertEqual(calmed(EXAMPLE, standing)[2], 2)
        # The channel may be a known name there.
        self.assertEqual([(i, j) for i, j, _ in lone_steps(EXAMPLE, (2, 0, ((s, (0, 1)), (t, (1,)))))], [(0, 1)])
        self.assertEqual(lone_steps(EXAMPLE, (3, 0, ((s, (0, 1)), (t, (2,))))), ())

    def test_wrong_standings(self):
        for asked in (lone_steps, calmed):
            for value in values_of_every_kind() + [(0, 0), (1, 1, [])]:
                if type(value) is tuple and len(value) == 3:
                    continue
                self.refused(BadStanding, {"place": ()}, asked, EXAMPLE, value)
            self.refused(BadStanding, {"place": (0,)}, asked, EXAMPLE, (True, 0, ()))
            self.refused(BadStanding, {"place": (2, 0)}, asked, EXAMPLE, (0, 0, (None,)))
            self.refused(BadStanding, {"place": ()}, asked, EXAMPLE, (1, 0, ()))
            self.refused(TooGreat, {"most": 12}, asked, EXAMPLE, (13, 0, ()))
            self.refused(BadGiven, {"value": None}, asked, EXAMPLE, None, None)

    def test_rests_that_are_too_great(self):
        for program, most in ((NINE_BEHIND, 8), (THIRTEEN_BEHIND, 12)):
            for asked in (lone_steps, calmed):
                self.refused(TooGreat, {"most": most}, asked, program, start(program)[0])
            self.refused(TooGreat, {"most": most}, lone_waits, program)
        for program in (EIGHT_BEHIND, TWELVE_BEHIND):
            self.assertEqual(len(lone_steps(program, start(program)[0])), 1)
            self.assertEqual(calmed(program, start(program)[0])[2], 1)

    def test_facts_for_all_standings(self):
        counted = 0
        for program in some_programs():
            standings, rows = graph(program)
            marked = lone_waits(program)
            self.assertIs(are_marks(program, marked), True)
            if len(standings) <= 20:
                self.assertLessEqual(set(marked), set(idle_waits(program)))
            told = set()
            for index, standing in enumerate(standings):
                steps = lone_steps(program, standing)
                rests = [rest for _, _, rest in steps]
                told |= {(index, move) for move, (action, others) in enumerate(rows[index])
                         if action == ("wait",) and (standings[others[0][0]], others[0][1]) in rests}
                self.go_round(program, standing, steps)
                counted += len(steps)
                self.assertEqual(self.ends(program, standing), {calmed(program, standing)})
            self.assert_same(marked, tuple(sorted(told)))
        self.assertGreater(counted, 60)

    def go_round(self, program, standing, steps):
        """Behind each other move each lone step can still be done, and both ways lead to one standing."""
        for i, j, (rest, keys) in steps:
            for action, rests in oracle.moves(program, standing):
                for place, (other, other_keys) in enumerate(rests):
                    if action == ("wait",) and (other, other_keys) == (rest, keys):
                        continue
                    self.assertTrue(self.meet_again(program, standing, (rest, keys), action, place, (other, other_keys)), (program, standing, action))

    def meet_again(self, program, standing, lone, action, place, other):
        """Whether some lone step of the one rest and a move of the other lead to the very same names."""
        (rest, keys), (there, other_keys) = lone, other
        known = standing[0]
        ends = {(end, tuple(other_keys[key] for key in inner)) for _, _, (end, inner) in lone_steps(program, there)}
        for back, rests in oracle.moves(program, rest):
            if (back[0], *[keys[number] for number in back[1:]]) != action:
                continue
            came = place if action[0] == "take" else known
            number = 0
            if action[0] == "take":
                number = keys.index(came) if came in keys else len(keys)
            end, inner = rests[number]
            if (end, tuple(came if key == rest[0] else keys[key] for key in inner)) in ends:
                return True
        return False

    def ends(self, program, standing):
        """All (standing, KEYS, steps) to which lone steps lead, in every order."""
        ends = set()
        ahead = [(standing, tuple(range(standing[0])), 0)]
        while ahead:
            here, keys, many = ahead.pop()
            steps = lone_steps(program, here)
            if not steps:
                ends.add((here, keys, many))
            ahead += [(rest, tuple(keys[number] for number in inner), many + 1) for _, _, (rest, inner) in steps]
        return ends
