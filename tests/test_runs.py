"""Points 19 and 20: names of the world, runs by steps and by actions."""

import itertools
import random

from passednames.contexts import beside_of, surrounded
from passednames.errors import BadGiven, BadPiece, BadStep, TooGreat
from passednames.graphs import graph
from passednames.names import AS_IS
from passednames.programs import renamed
from passednames.runs import traced, walked
from passednames.standings import start
from tests import oracle
from tests.samples import (Case, HOLE, STOP, Odd, alike, beside, call, main, new, one, random_programs, send, take, unlike,
                           values_of_every_kind, wait, waits)

WAIT = ("wait",)
FOUR = beside(wait(), wait(), wait(), wait())
MANY = beside(FOUR, FOUR, wait())
EXAMPLE = main(new(0, beside(send(3, 0), take(0, 1))))
# Takes a name, sends it on itself, and begins again.
ECHO = main(call(0, 3), ((0,), take(0, 1, send(1, 1, call(0, 0)))))
# Opens names on 3 for ever and forgets them.
MINT = main(call(0, 3), ((0,), new(1, send(0, 1, call(0, 0)))))
# Takes a name on 3 or opens one there, for ever.
BOTH = main(call(0, 3), ((0,), new(1, one(take(0, 2, call(0, 0)), send(0, 1, call(0, 0))))))
CIRCLE = main(call(0), ((), wait(call(0))))


def all_runs(program, given, many, strangers):
    """All tuples of at most so many steps, with what walked returns."""
    standings, rows = graph(program, given)
    runs = [((), walked(program, given, ()))]
    for steps, (index, names, _) in runs:
        if len(steps) == many:
            continue
        for move, (action, rests) in enumerate(rows[index]):
            for rest in range(len(rests)):
                more = [()]
                if action[0] == "take" and rest == len(names):
                    more = [(name,) for name in strangers if name not in names]
                for extra in more:
                    longer = steps + ((move, rest) + extra,)
                    runs.append((longer, walked(program, given, longer)))
    return runs


class Walked(Case):

    def gives(self, program, steps, index, names, trace, given=AS_IS):
        self.assert_same(walked(program, given, steps), (index, names, trace))
        self.assert_same(walked(program=program, given=given, steps=steps), (index, names, trace))

    def test_no_steps(self):
        self.gives(main(STOP), (), 0, (), ())
        self.gives(main(send(4, 2)), (), 0, (2, 4), ())
        self.gives(main(send(4, 2)), (), 0, (7,), (), given=(7,) * 10)

    def test_the_example_goes_on(self):
        self.gives(EXAMPLE, ((0, 0),), 1, (10,), (("open", 3, 10),))
        self.gives(EXAMPLE, ((0, 0), (0, 0)), 2, (), (("open", 3, 10), ("take", 10, 10)))
        self.gives(EXAMPLE, ((0, 0), (0, 1, 3)), 2, (), (("open", 3, 10), ("take", 10, 3)))
        self.gives(EXAMPLE, ((0, 0), (0, 1, 10 ** 6)), 2, (), (("open", 3, 10), ("take", 10, 10 ** 6)))
        self.gives(EXAMPLE, ((0, 0),), 1, (10,), (("open", 7, 10),), given=(7,) * 10)

    def test_each_word(self):
        program = main(one(wait(), send(5, 2), take(5, 1, send(1, 5))))
        self.gives(program, ((0, 0),), 1, (), (("send", 5, 2),))
        self.gives(program, ((1, 0),), 2, (2, 5), (("take", 5, 2),))
        self.gives(program, ((1, 1),), 3, (5,), (("take", 5, 5),))
        self.gives(program, ((1, 2, 44),), 2, (44, 5), (("take", 5, 44),))
        self.gives(program, ((2, 0),), 1, (), (WAIT,))

    def test_which_move(self):
        program = main(beside(wait(send(1, 1)), wait(send(2, 2))))
        self.gives(program, ((0, 0), (0, 0)), 3, (1,), (WAIT, ("send", 2, 2)))
        self.gives(program, ((1, 0), (0, 0)), 5, (2,), (WAIT, ("send", 1, 1)))
        self.gives(program, ((1, 0), (1, 0)), 4, (1, 2), (WAIT, WAIT))

    def test_names_go_by_keys(self):
        program = main(send(1, 2, send(2, 3, send(3, 1))))
        self.gives(program, ((0, 0),), 1, (1, 2, 3), (("send", 1, 2),))
        self.gives(program, ((0, 0),) * 2, 2, (1, 3), (("send", 1, 2), ("send", 2, 3)))
        self.gives(program, ((0, 0),) * 3, 3, (), (("send", 1, 2), ("send", 2, 3), ("send", 3, 1)))
        self.gives(program, ((0, 0),) * 3, 3, (), (("send", 8, 7), ("send", 7, 6), ("send", 6, 8)),
                   given=(9, 8, 7, 6, 5, 4, 3, 2, 1, 0))

    def test_names_opened_are_the_least_above_all_in_use(self):
        self.gives(MINT, ((0, 0),) * 3, 0, (3,), (("open", 3, 10), ("open", 3, 11), ("open", 3, 12)))
        # A name that came in as a stranger is in use even where it has been forgotten at once.
        self.gives(BOTH, ((0, 0), (1, 1, 500), (0, 0)), 0, (3,), (("open", 3, 10), ("take", 3, 500), ("open", 3, 501)))
        self.gives(BOTH, ((1, 1, 10), (0, 0)), 0, (3,), (("take", 3, 10), ("open", 3, 11)))
        self.gives(BOTH, ((1, 1, 4), (0, 0)), 0, (3,), (("take", 3, 4), ("open", 3, 10)))
        self.gives(BOTH, ((1, 1, 500), (1, 1, 20), (0, 0), (0, 0)), 0, (3,),
                   (("take", 3, 500), ("take", 3, 20), ("open", 3, 501), ("open", 3, 502)))

    def test_forgotten_names_may_come_in_again(self):
        self.gives(ECHO, ((0, 1, 12), (0, 0), (0, 1, 12)), 2, (3, 12),
                   (("take", 3, 12), ("send", 12, 12), ("take", 3, 12)))
        self.gives(BOTH, ((0, 0), (1, 1, 10), (0, 0)), 0, (3,), (("open", 3, 10), ("take", 3, 10), ("open", 3, 11)))
        self.gives(EXAMPLE, ((0, 0), (0, 1, 3)), 2, (), (("open", 3, 10), ("take", 10, 3)))

    def test_names_up_to_a_million(self):
        self.gives(BOTH, ((1, 1, 999999), (0, 0)), 0, (3,), (("take", 3, 999999), ("open", 3, 10 ** 6)))
        self.gives(BOTH, ((1, 1, 10 ** 6), (1, 0)), 0, (3,), (("take", 3, 10 ** 6), ("take", 3, 3)))
        self.refused(BadStep, {"place": 1}, walked, BOTH, AS_IS, ((1, 1, 10 ** 6), (0, 0)))
        self.refused(BadStep, {"place": 2}, walked, BOTH, AS_IS, ((1, 1, 999999), (0, 0), (0, 0)))
        self.refused(BadStep, {"place": 3}, walked, BOTH, AS_IS, ((1, 1, 10 ** 6), (1, 1, 20), (1, 1, 10 ** 6), (0, 0), None))
        self.refused(BadStep, {"place": 0}, walked, BOTH, AS_IS, ((1, 1, 10 ** 6 + 1),))

    def test_two_hundred_and_two_hundred_and_one(self):
        self.gives(CIRCLE, ((0, 0),) * 200, 0, (), (WAIT,) * 200)
        self.refused(TooGreat, {"most": 200}, walked, CIRCLE, AS_IS, ((0, 0),) * 201)
        self.refused(TooGreat, {"most": 200}, walked, CIRCLE, AS_IS, (None,) * 201)
        self.gives(MINT, ((0, 0),) * 200, 0, (3,), tuple(("open", 3, name) for name in range(10, 210)))

    def test_no_tuple(self):
        for value in values_of_every_kind() + [[(0, 0)], 3, {}]:
            if not isinstance(value, tuple):
                self.refused(BadStep, {"place": 0}, walked, CIRCLE, AS_IS, value)
                self.refused(BadStep, {"place": 0}, walked, main(MANY), AS_IS, value)

    def test_no_step(self):
        wrong = values_of_every_kind() + [
            (), (0,), (0, 0, 0), (1, 0), (0, 1), (-1, 0), (0, -1), [0, 0], (True, 0), (0, False), (False, False), (0.0, 0), (0, 0.0),
            (None, 0), (0, None), ("0", 0), ((0, 0),), (0, 0, None), (0, 0, 0, 0), (Odd(), 0), (0, Odd()), (10 ** 30, 0), (0, 10 ** 30),
        ]
        for value in wrong:
            self.refused(BadStep, {"place": 0}, walked, CIRCLE, AS_IS, (value,))
            self.refused(BadStep, {"place": 2}, walked, CIRCLE, AS_IS, ((0, 0), (0, 0), value, None))

    def test_no_step_of_a_take(self):
        program = main(take(4, 2, send(2, 5)))
        for value in values_of_every_kind() + [4, 5, 10 ** 6 + 1, (9,), "9", 9.0, -1, False]:
            if isinstance(value, int) and not isinstance(value, bool) and 0 <= value <= 10 ** 6 and value not in (4, 5):
                continue
            self.refused(BadStep, {"place": 0}, walked, program, AS_IS, ((0, 2, value),))
        for value in ((0, 2), (0, 0, 9), (0, 1, 9), (0, 3), (0, 3, 9), (0, 2, 9, 9), [0, 2, 9], (True, 2, 9), (0, 0, 4), (1, 0), (0, 2, True)):
            self.refused(BadStep, {"place": 0}, walked, program, AS_IS, (value,))
        for name in (0, 1, 2, 3, 6, 9, 10, 10 ** 6):
            self.assertEqual(walked(program, AS_IS, ((0, 2, name),))[1:], ((name, 5), (("take", 4, name),)))
        self.assertEqual(walked(program, AS_IS, ((0, 0),))[2], (("take", 4, 4),))
        self.assertEqual(walked(program, AS_IS, ((0, 1),))[2], (("take", 4, 5),))

    def test_no_name_that_a_known_number_has_there(self):
        # Behind the send 4 is forgotten, so it may come in; 5 and 6 are still known.
        program = main(send(4, 5, take(5, 1, send(1, 6))))
        self.assertEqual(walked(program, AS_IS, ((0, 0), (0, 2, 4)))[2], (("send", 4, 5), ("take", 5, 4)))
        for name in (5, 6):
            self.refused(BadStep, {"place": 1}, walked, program, AS_IS, ((0, 0), (0, 2, name)))
        self.refused(BadStep, {"place": 0}, walked, main(take(4, 1)), (8,) * 10, ((0, 1, 8),))
        self.assertEqual(walked(main(take(4, 1)), (8,) * 10, ((0, 1, 4),))[2], (("take", 8, 4),))

    def test_no_steps_behind_the_end(self):
        self.refused(BadStep, {"place": 1}, walked, main(wait()), AS_IS, ((0, 0), (0, 0)))
        self.refused(BadStep, {"place": 0}, walked, main(STOP), AS_IS, ((0, 0),))

    def test_the_order_of_the_errors(self):
        self.refused(BadPiece, {"path": (1,)}, walked, main(None), None, None)
        self.refused(BadGiven, {"value": None}, walked, main(MANY), None, None)
        self.refused(BadStep, {"place": 0}, walked, main(MANY), AS_IS, [])
        self.refused(TooGreat, {"most": 200}, walked, main(MANY), AS_IS, (None,) * 201)
        self.refused(TooGreat, {"most": 8}, walked, main(MANY), AS_IS, (None,) * 200)
        self.refused(TooGreat, {"most": 8}, walked, main(wait(MANY)), AS_IS, ())
        self.refused(TooGreat, {"most": 60}, walked, main(beside(waits(4), waits(4), waits(4))), AS_IS, (None,))
        for value in values_of_every_kind():
            self.refused(BadGiven, {"value": value}, walked, CIRCLE, value, None)

    def test_runs_end_where_the_graph_says(self):
        for program in random_programs(60, 30):
            if oracle.outcome(graph, program)[0] == "too great":
                continue
            standings, rows = graph(program)
            for steps, (index, names, trace) in all_runs(program, AS_IS, 2, (3, 7, 30)):
                self.assertEqual(len(names), standings[index][0])
                self.assertEqual(len(set(names)), len(names))
                self.assertEqual(len(trace), len(steps))
                at = 0
                for step, action in zip(steps, trace):
                    self.assertEqual(action[0], rows[at][step[0]][0][0])
                    at = rows[at][step[0]][1][step[1]][0]
                self.assertEqual(at, index)


class Traced(Case):

    def gives(self, program, trace, *wanted, given=AS_IS):
        self.assert_same(traced(program, given, trace), wanted)
        self.assert_same(traced(program=program, given=given, trace=trace), wanted)

    def test_no_actions(self):
        self.gives(main(STOP), (), (0, ()))
        self.gives(main(send(4, 2)), (), (0, (2, 4)))
        self.gives(main(send(4, 2)), (), (0, (7,)), given=(7,) * 10)

    def test_each_word(self):
        self.gives(main(wait()), (WAIT,), (1, ()))
        self.gives(main(send(4, 2)), (("send", 4, 2),), (1, ()))
        self.gives(main(send(4, 2)), (("send", 2, 4),))
        self.gives(main(send(4, 2)), (("send", 4, 4),))
        self.gives(main(send(4, 2)), (("send", 8, 8),), (1, ()), given=(8,) * 10)
        self.gives(main(send(4, 2)), (WAIT,))
        self.gives(main(new(1, send(4, 1, send(1, 4)))), (("open", 4, 10),), (1, (10, 4)))
        self.gives(main(new(1, send(4, 1))), (("send", 4, 10),))
        self.gives(main(new(1, send(4, 1))), (("open", 5, 10),))
        self.gives(main(take(4, 1)), (("take", 4, 4),), (1, ()))
        self.gives(main(take(4, 1)), (("take", 4, 77),), (1, ()))
        self.gives(main(take(4, 1)), (("take", 5, 77),))
        self.gives(main(take(4, 1, send(1, 1))), (("take", 4, 77),), (1, (77,)))
        self.gives(main(take(4, 1, send(1, 1))), (("take", 4, 4),), (1, (4,)))

    def test_any_name_may_be_opened(self):
        for name in (10, 11, 500, 10 ** 6):
            self.gives(EXAMPLE, (("open", 3, name),), (1, (name,)))
            self.gives(EXAMPLE, (("open", 3, name), ("take", name, name)), (2, ()))
            self.gives(EXAMPLE, (("open", 3, name), ("take", name, 3)), (2, ()))
            self.gives(EXAMPLE, (("open", 3, name), ("take", 3, name)))
        self.gives(MINT, tuple(("open", 3, name) for name in (30, 20, 10, 25)), (0, (3,)))

    def test_several_runs(self):
        program = main(one(wait(send(1, 2)), wait(send(2, 1)), wait(send(1, 2, wait()))))
        self.gives(program, (WAIT,), (1, (1, 2)), (2, (1, 2)), (3, (1, 2)))
        self.gives(program, (WAIT, ("send", 1, 2)), (4, ()), (5, ()))
        self.gives(program, (WAIT, ("send", 2, 1)), (4, ()))
        self.gives(program, (WAIT, ("send", 2, 2)))

    def test_one_index_with_several_names(self):
        program = main(one(wait(call(0, 1)), wait(call(0, 2))), ((0,), send(0, 0)))
        self.gives(program, (WAIT,), (1, (1,)), (1, (2,)))
        self.gives(program, (WAIT, ("send", 2, 2)), (2, ()))
        self.gives(program, (WAIT,), (1, (5,)), given=(5,) * 10)

    def test_names_in_use(self):
        for trace, place in (
            ((("open", 3, 3),), 0), ((("open", 3, 9),), 0), ((("open", 3, 0),), 0), ((("open", 20, 20),), 0),
            ((("open", 3, 10), ("open", 3, 10)), 1), ((("take", 3, 20), ("open", 3, 20)), 1), ((("take", 20, 3), ("open", 3, 20)), 1),
            ((("send", 20, 3), ("open", 3, 20)), 1), ((("send", 3, 20), WAIT, ("open", 3, 20)), 2),
            ((("open", 20, 21), ("open", 3, 20)), 1), ((WAIT, WAIT, ("open", 21, 21), None), 2),
        ):
            self.refused(BadStep, {"place": place}, traced, MINT, AS_IS, trace)
            self.refused(BadStep, {"place": place}, traced, main(MANY), AS_IS, trace)
        self.gives(MINT, (("open", 20, 21),))
        self.gives(BOTH, (("take", 3, 20), ("open", 3, 21), ("take", 3, 21)), (0, (3,)))

    def test_strangers_may_have_any_name_not_known_there(self):
        self.gives(ECHO, (("take", 3, 12), ("send", 12, 12), ("take", 3, 12)), (2, (3, 12)))
        self.gives(ECHO, (("take", 3, 12), ("send", 12, 12), ("take", 3, 3), ("send", 3, 3)), (0, (3,)))
        self.gives(ECHO, (("take", 3, 12), ("send", 3, 12)))
        self.gives(BOTH, (("open", 3, 40), ("take", 3, 40)), (0, (3,)))

    def test_forty_and_forty_one(self):
        self.gives(CIRCLE, (WAIT,) * 40, (0, ()))
        self.refused(TooGreat, {"most": 40}, traced, CIRCLE, AS_IS, (WAIT,) * 41)
        self.refused(TooGreat, {"most": 40}, traced, main(MANY), AS_IS, (None,) * 41)
        self.refused(BadStep, {"place": 39}, traced, CIRCLE, AS_IS, (WAIT,) * 39 + (None,))

    def test_no_tuple(self):
        for value in values_of_every_kind() + [[WAIT], 3]:
            if not isinstance(value, tuple):
                self.refused(BadStep, {"place": 0}, traced, CIRCLE, AS_IS, value)
                self.refused(BadStep, {"place": 0}, traced, main(MANY), AS_IS, value)

    def test_no_action(self):
        names = values_of_every_kind() + [10 ** 6 + 1, (3,), "3", 3.0]
        wrong = values_of_every_kind() + [
            (), "wait", ("wait", ()), ("wait", 1), ["wait"], ("Wait",), ("send",), ("send", 3), ("send", 3, 3, 3), ("open", 3),
            ("open", 3, 10, 11), ("take", 3), ("take", 3, 3, 3), ["send", 3, 3], ("join", 3, 4), ("send", 3, (3,)), ("one", 3, 3), ("wait", 3, 3),
            (b"wait",), (b"send", 3, 3), (Odd(), 3, 3), ("alike", 0, 1),
        ]
        for name in names:
            if isinstance(name, int) and not isinstance(name, bool) and 0 <= name <= 10 ** 6:
                continue
            wrong += [("send", name, 3), ("send", 3, name), ("open", name, 10), ("open", 3, name), ("take", name, 3), ("take", 3, name)]
        for value in wrong:
            self.refused(BadStep, {"place": 0}, traced, CIRCLE, AS_IS, (value,))
            self.refused(BadStep, {"place": 1}, traced, main(MANY), AS_IS, (WAIT, value, None))

    def test_the_order_of_the_errors(self):
        self.refused(BadPiece, {"path": (1,)}, traced, main(None), None, None)
        self.refused(BadGiven, {"value": None}, traced, main(MANY), None, None)
        self.refused(BadStep, {"place": 0}, traced, main(MANY), AS_IS, [])
        self.refused(TooGreat, {"most": 40}, traced, main(MANY), AS_IS, (None,) * 41)
        self.refused(BadStep, {"place": 0}, traced, main(MANY), AS_IS, (None,) * 40)
        self.refused(TooGreat, {"most": 8}, traced, main(MANY), AS_IS, ())
        self.refused(TooGreat, {"most": 60}, traced, main(beside(waits(4), waits(4), waits(4))), AS_IS, (("send", 0, 0),))
        for value in values_of_every_kind():
            self.refused(BadGiven, {"value": value}, traced, CIRCLE, value, None)

    def test_it_is_what_runs_do(self):
        for program in random_programs(61, 25) + [ECHO, MINT, BOTH, EXAMPLE]:
            if oracle.outcome(graph, program)[0] == "too great":
                continue
            behind = {}
            for _, (index, names, trace) in all_runs(program, AS_IS, 3, (1, 30)):
                behind.setdefault(trace, set()).add((index, names))
            for trace, found in list(behind.items())[:60]:
                self.assertEqual(traced(program, AS_IS, trace), tuple(sorted(found)))

    def test_other_names_for_what_is_opened(self):
        for program in random_programs(62, 20) + [MINT, BOTH, EXAMPLE]:
            if oracle.outcome(graph, program)[0] == "too great":
                continue
            for _, (_, _, trace) in all_runs(program, AS_IS, 3, (1,))[:80]:
                def other(name):
                    return name if name < 10 else 2000 - name
                changed = tuple(action[:1] + tuple(other(name) for name in action[1:]) for action in trace)
                wanted = {(index, tuple(other(name) for name in names)) for index, names in traced(program, AS_IS, trace)}
                self.assertEqual(set(traced(program, AS_IS, changed)), wanted)


def all_traces(program, given, many):
    """The set of the traces of all runs of at most so many steps, a few strangers coming in."""
    return {trace for _, (_, _, trace) in all_runs(program, given, many, (1, 5, 30))}


class Facts(Case):

    def test_a_renamed_program_does_what_the_program_does(self):
        chance = random.Random(63)
        for program in random_programs(64, 25):
            if oracle.outcome(graph, program)[0] == "too great":
                continue
            for _ in range(3):
                given = tuple(chance.randrange(6) for _ in range(10))
                self.assertEqual(all_traces(program, given, 3), all_traces(renamed(program, given), AS_IS, 3))

    def test_a_renamed_program_catches_nothing(self):
        for piece in (take(0, 1, send(1, 2, send(2, 1))), new(1, send(0, 1, send(1, 2))), take(0, 1, alike(1, 2, send(1, 2))),
                      new(1, unlike(1, 2, send(0, 2))), take(0, 3, take(3, 1, send(1, 2)))):
            for given in itertools.product(range(4), repeat=3):
                row = given + (3,) * 7
                self.assertEqual(all_traces(main(piece), row, 3), all_traces(renamed(main(piece), row), AS_IS, 3))

    def test_first_names_are_those_given(self):
        for given in ((3, 3, 3, 3, 3, 3, 3, 3, 3, 3), (9, 8, 7, 6, 5, 4, 3, 2, 1, 0)):
            for program in random_programs(65, 20):
                if oracle.outcome(graph, program, given)[0] != "too great":
                    self.assertEqual(walked(program, given, ()), (0, start(program, given)[1], ()))


class InSurroundings(Case):
    """What a program does in a surrounding, and side by side with another one."""

    def programs(self, seed):
        return [program for program in random_programs(seed, 40, 4)
                if oracle.outcome(graph, program)[0] != "too great" and len(program[0]) < 3]

    def test_behind_a_wait(self):
        for program in self.programs(66):
            there = surrounded(main(wait(HOLE)), program)
            wanted = {()} | {(WAIT,) + trace for trace in all_traces(program, AS_IS, 2)}
            self.assertEqual(all_traces(there, AS_IS, 3), wanted)

    def test_in_nothing_else(self):
        for program in self.programs(67):
            for surrounding in (main(HOLE), main(beside(HOLE, STOP)), main(new(9, beside(send(9, 1), HOLE)), ((), STOP))):
                there = surrounded(surrounding, program)
                self.assertEqual(all_traces(there, AS_IS, 2), all_traces(program, AS_IS, 2))

    def test_names_are_caught(self):
        there = surrounded(main(new(1, HOLE)), main(beside(send(0, 1), send(1, 2))))
        self.assertEqual(all_traces(there, AS_IS, 2), {
            (), (("open", 0, 10),), (("open", 0, 10), ("send", 10, 2))})
        there = surrounded(main(take(3, 1, HOLE)), main(send(0, 1)))
        self.assertEqual(traced(there, AS_IS, (("take", 3, 77), ("send", 0, 77))), traced(there, AS_IS, (("take", 3, 0), ("send", 0, 0))))
        self.assertEqual(len(traced(there, AS_IS, (("take", 3, 77), ("send", 0, 77)))), 1)
        self.assertEqual(traced(there, AS_IS, (("take", 3, 77), ("send", 0, 1))), ())

    def test_names_joined_by_a_surrounding(self):
        # 8 is met with 2 and 9 with 3, by two silent steps; behind them the program has 2 for 8 and 3 for 9.
        ahead = new(0, beside(take(0, 8, take(0, 9, HOLE)), send(0, 2, send(0, 3))))
        given = (0, 1, 2, 3, 4, 5, 6, 7, 2, 3)
        for piece in (beside(send(8, 2), take(2, 5, send(5, 9))), alike(8, 2, unlike(8, 9, wait(send(9, 3)))),
                      beside(send(8, 4), take(2, 5, send(5, 5)))):
            there = surrounded(main(ahead), main(piece))
            wanted = {(), (WAIT,)} | {(WAIT, WAIT) + trace for trace in all_traces(main(piece), given, 2)}
            self.assertEqual(all_traces(there, AS_IS, 4), wanted)

    def test_side_by_side(self):
        there = beside_of(main(send(0, 1, wait())), main(call(0, 0), ((2,), take(2, 3, send(3, 2)))))
        traces = all_traces(there, AS_IS, 2)
        for trace in ((("send", 0, 1), WAIT), (("take", 0, 5), ("send", 5, 0)), (("send", 0, 1), ("take", 0, 30)), (WAIT, WAIT),
                      (WAIT, ("send", 1, 0)), (("take", 0, 1), ("send", 0, 1))):
            self.assertIn(trace, traces)
        for trace in ((("send", 1, 0),), (WAIT, ("send", 0, 1)), (("open", 0, 10),), (("send", 0, 1), ("send", 1, 0))):
            self.assertNotIn(trace, traces)
