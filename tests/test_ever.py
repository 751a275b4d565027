"""Points 21 to 24: what can ever come, papers that it never comes, standing still, endless silence."""

import itertools
import random

from passednames.errors import BadGiven, BadMove, BadPiece, NoMove, TooGreat, Unlike
from passednames.ever import are_ranks, can_ever, is_never_paper, never_paper, ranks, silent_circle, still_steps
from passednames.graphs import graph
from passednames.names import AS_IS
from passednames.programs import renamed
from passednames.runs import walked
from passednames.standings import start
from tests import oracle
from tests.samples import (Case, HOLE, STOP, alike, beside, call, circling_programs, main, new, one, random_programs, send,
                           take, unlike, values_of_every_kind, wait, waits)

WAIT = ("wait",)
SIXTY = beside(waits(4), waits(3), waits(2))
JOINED = (0, 0, 0, 0, 4, 5, 6, 7, 8, 9)
ECHO = main(call(0, 3), ((0,), take(0, 1, send(1, 1, call(0, 0)))))
HOP = main(call(0, 3), ((0,), take(0, 1, send(1, 1, call(0, 1)))))
MINT = main(call(0, 3), ((0,), new(1, send(0, 1, call(0, 0)))))
CIRCLE = main(call(0), ((), wait(call(0))))
TAKEN = main(take(0, 1, send(0, 1)))
WORDS = ("open", "send", "take", "wait")
ALL_WORDS = [words for many in range(5) for words in itertools.combinations(WORDS, many)]


def runs_of(program, given, longest, sought=()):
    """All runs of at most so many steps: (steps, index, names, trace), the shorter ones first, then ascending.

    A stranger is one of the sought names or the least name from 10 on that is not in use.
    """
    standings, rows = graph(program, given)
    runs = [((), 0, start(program, given)[1], ())]
    for steps, index, names, trace in runs:
        if len(steps) == longest:
            continue
        used = {10 - 1} | {name for action in trace for name in action[1:]} | set(names)
        fresh = max(used) + 1
        for move, (action, rests) in enumerate(rows[index]):
            for rest, (behind, keys) in enumerate(rests):
                comings = [None]
                if action[0] == "open":
                    comings = [fresh]
                if action[0] == "take" and rest == len(names):
                    comings = sorted({name for name in sought if name not in names} | {fresh})
                for came in comings:
                    step = (move, rest, came) if action[0] == "take" and rest == len(names) else (move, rest)
                    there = tuple(came if key == len(names) else names[key] for key in keys)
                    told = (action[0],) + tuple(names[number] for number in action[1:])
                    if action[0] == "open":
                        told += (came,)
                    if action[0] == "take":
                        told += (names[rest] if came is None else came,)
                    runs.append((steps + (step,), behind, there, trace + (told,)))
    return sorted(runs, key=lambda run: (len(run[0]), run[0]))


def does(action, wanted):
    """Whether an action with the world's names is what is wanted."""
    return action[0] == wanted[0] and all(name in (None, there) for name, there in zip(wanted[1:], action[1:]))


def all_wanted(names):
    """All that can be wanted with some names."""
    row = (*names, None)
    found = [WAIT]
    found += [(word, name) for word in ("open", "take") for name in row]
    return found + [("send", a, b) for a in row for b in row]


class CanEver(Case):

    def gives(self, program, wanted, steps, given=AS_IS):
        self.assert_same(can_ever(program, given, wanted), steps)
        self.assert_same(can_ever(program=program, given=given, wanted=wanted), steps)
        self.refused(Unlike, {"value": steps}, never_paper, program, given, wanted)

    def never(self, program, wanted, given=AS_IS):
        self.refused(NoMove, {}, can_ever, program, given, wanted)
        self.assertTrue(is_never_paper(program, given, wanted, never_paper(program, given, wanted)))

    def test_each_word_with_names_another_name_and_none(self):
        program = main(one(wait(send(3, 4)), take(5, 0), wait(new(0, send(6, 0)))))
        # The moves of the first standing, ascending: the take, the wait to one known name, the wait to two.
        self.gives(program, WAIT, ((1, 0),))
        for wanted in (("send", 3, 4), ("send", 3, None), ("send", None, 4), ("send", None, None)):
            self.gives(program, wanted, ((2, 0), (0, 0)))
        for wanted in (("send", 4, 3), ("send", 3, 5), ("send", 5, 4), ("send", 4, None), ("send", None, 3), ("send", 3, 3)):
            self.never(program, wanted)
        for wanted in (("take", 5), ("take", None)):
            self.gives(program, wanted, ((0, 0),))
        for wanted in (("take", 3), ("take", 0)):
            self.never(program, wanted)
        for wanted in (("open", 6), ("open", None)):
            self.gives(program, wanted, ((1, 0), (0, 0)))
        for wanted in (("open", 0), ("open", 3)):
            self.never(program, wanted)
        self.never(main(STOP), WAIT)

    def test_a_send_of_an_own_name_is_no_send(self):
        self.never(main(new(0, send(6, 0))), ("send", None, None))
        self.never(main(send(6, 0)), ("open", None))

    def test_a_stranger_is_a_sought_name(self):
        program = main(take(0, 1, send(1, 2)))
        self.gives(program, ("send", 5, None), ((0, 2, 5), (0, 0)))
        self.gives(program, ("send", 5, 2), ((0, 2, 5), (0, 0)))
        self.gives(program, ("send", 0, 2), ((0, 0), (0, 0)))
        self.gives(program, ("send", 2, 2), ((0, 1), (0, 0)))
        self.gives(program, ("send", None, None), ((0, 0), (0, 0)))
        self.never(program, ("send", 5, 5))
        self.gives(main(take(0, 1, send(1, 1))), ("send", 5, 5), ((0, 1, 5), (0, 0)))
        self.gives(main(take(0, 1, send(0, 1))), ("send", None, 9), ((0, 1, 9), (0, 0)))
        self.gives(main(take(0, 1, take(1, 2))), ("take", 5), ((0, 1, 5), (0, 0)))
        self.gives(main(take(0, 1, new(2, send(1, 2)))), ("open", 5), ((0, 1, 5), (0, 0)))

    def test_two_sought_names(self):
        program = main(take(0, 1, take(0, 2, send(1, 2))))
        self.gives(program, ("send", 5, 4), ((0, 1, 5), (0, 2, 4), (0, 0)))
        self.gives(program, ("send", 4, 5), ((0, 1, 4), (0, 2, 5), (0, 0)))
        self.gives(program, ("send", 4, 4), ((0, 1, 4), (0, 1), (0, 0)))
        self.gives(program, ("send", 0, 5), ((0, 0), (0, 1, 5), (0, 0)))

    def test_a_name_that_was_forgotten_comes_in_again(self):
        self.gives(main(send(3, 4, take(0, 1, send(1, 1)))), ("send", 3, 3), ((0, 0), (0, 1, 3), (0, 0)))
        self.gives(main(send(3, 4, take(0, 1, send(0, 1)))), ("send", 0, 4), ((0, 0), (0, 1, 4), (0, 0)))
        self.gives(ECHO, ("send", 7, None), ((0, 1, 7), (0, 0)))
        self.gives(HOP, ("take", 7), ((0, 1, 7), (0, 0), (0, 0)))

    def test_a_name_that_has_come_in_is_no_stranger(self):
        twice = main(take(0, 1, take(0, 2, unlike(1, 2, alike(1, 3, unlike(0, 1, send(2, 1)))))))
        # 3 is known, so it is not a stranger: number 1 of the first standing.
        self.gives(twice, ("send", None, 3), ((0, 1), (0, 0), (0, 0)))
        self.gives(twice, ("send", 6, 3), ((0, 1), (0, 2, 6), (0, 0)))

    def test_other_strangers_have_the_least_names_from_10_on(self):
        third = take(0, 2, unlike(0, 2, unlike(1, 2, wait())))
        self.gives(main(take(0, 1, unlike(0, 1, third))), WAIT, ((0, 1, 10), (0, 2, 11), (0, 0)))
        self.gives(main(new(1, send(0, 1, third))), WAIT, ((0, 0), (0, 2, 11), (0, 0)))
        fourth = take(0, 2, unlike(0, 2, unlike(1, 2, unlike(2, 3, wait()))))
        opened_between = take(0, 1, unlike(0, 1, send(0, 0, new(3, send(0, 3, fourth)))))
        self.gives(main(opened_between), WAIT, ((0, 1, 10), (0, 0), (0, 0), (0, 3, 12), (0, 0)))
        self.gives(main(third), WAIT, ((0, 2, 10), (0, 0)), given=AS_IS)
        self.gives(main(third), WAIT, ((0, 1, 10), (0, 0)), given=JOINED)

    def test_a_forgotten_stranger_is_still_in_use(self):
        program = main(take(0, 1, unlike(0, 1, wait(take(0, 2, unlike(0, 2, send(0, 2)))))))
        self.gives(program, ("send", 0, None), ((0, 1, 10), (0, 0), (0, 1, 11), (0, 0)))

    def test_a_sought_name_is_less_than_another_one(self):
        # Any stranger would do at first; it is 5, the least that may be told.
        program = main(take(0, 1, unlike(0, 1, wait(take(0, 2, send(0, 2))))))
        self.gives(program, ("send", None, 5), ((0, 1, 5), (0, 0), (0, 1, 5), (0, 0)))
        self.gives(program, ("send", 0, 8), ((0, 1, 8), (0, 0), (0, 1, 8), (0, 0)))
        self.gives(main(take(0, 1, unlike(0, 1, take(0, 2, send(2, 0))))), ("send", 8, None), ((0, 1, 8), (0, 1), (0, 0)))

    def test_given_names(self):
        self.gives(main(send(1, 2)), ("send", 0, 0), ((0, 0),), given=JOINED)
        self.never(main(send(1, 2)), ("send", 1, None), given=JOINED)
        self.gives(main(beside(send(1, 5), take(2, 0))), WAIT, ((2, 0),), given=JOINED)
        self.never(main(beside(send(1, 5), take(2, 0))), WAIT)
        self.gives(main(take(1, 4, send(4, 4))), ("send", 1, 1), ((0, 1, 1), (0, 0)), given=JOINED)

    def test_the_least_of_the_shortest(self):
        program = main(one(wait(wait(send(0, 1))), wait(send(0, 1, wait())), wait(send(0, 1))))
        self.gives(program, ("send", 0, 1), ((1, 0), (0, 0)))
        program = main(one(take(0, 1, unlike(0, 1, send(1, 1))), take(0, 1, send(1, 1))))
        rows = graph(program)[1][0]
        self.assertEqual([action for action, _ in rows], [("take", 0), ("take", 0)])
        least = min(steps for steps, _, _, trace in runs_of(program, AS_IS, 2, (7,)) if trace[1:] == (("send", 7, 7),))
        self.gives(program, ("send", 7, None), least)

    def test_against_all_runs(self):
        chance = random.Random(21)
        for program in random_programs(211, 40, 4) + [ECHO, MINT] + circling_programs(212, 10):
            given = chance.choice((AS_IS, JOINED))
            if oracle.outcome(graph, program, given)[0] == "too great" or len(graph(program, given)[0]) > 25:
                continue
            for wanted in chance.sample(all_wanted((0, 1, 3, 7)), 8):
                sought = [name for name in wanted[1:] if name is not None]
                runs = runs_of(program, given, 3, sought)
                wanted_runs = [run[0] for run in runs if run[3] and does(run[3][-1], wanted)]
                try:
                    steps = can_ever(program, given, wanted)
                except NoMove:
                    steps = None
                if wanted_runs:
                    self.assertEqual(steps, wanted_runs[0], (program, given, wanted))
                else:
                    self.assertTrue(steps is None or len(steps) > 3)
                if steps is not None:
                    self.assertTrue(does(walked(program, given, steps)[2][-1], wanted))

    def test_wrong_wants(self):
        wrong = values_of_every_kind() + [
            (), ("wait", 0), ("wait", None), ("send",), ("send", 0), ("send", 0, 1, 2), ("send", 0, 10), ("send", 10, 0),
            ("send", 0, -1), ("send", True, 0), ("send", 0, False), ("send", 0, 1.0), ("open",), ("open", 0, 1),
            ("open", None, None), ("open", 10), ("open", "0"), ("take", 0, 1), ("take", -1), ("take", True), ("take",),
            ("send", [0], 1), ["send", 0, 1], ["wait"], ("Wait",), ("", 0), ("new", 0), (0, 1, 2), ("hole",)]
        for value in wrong:
            self.refused(BadMove, {"value": value}, can_ever, main(STOP), AS_IS, value)
            self.refused(BadMove, {"value": value}, never_paper, main(STOP), AS_IS, value)
            self.refused(BadMove, {"value": value}, is_never_paper, main(STOP), AS_IS, value, ((0, -1, -1),))

    def test_the_order_of_errors(self):
        great = main(beside(SIXTY, wait()))
        nine = main(beside(*[beside(*[wait()] * 4)] * 3))
        for asked, more in ((can_ever, ()), (never_paper, ()), (is_never_paper, ((0, -1, -1),))):
            self.refused(BadPiece, {"path": (1,)}, asked, main(HOLE), None, None, *more)
            self.refused(BadGiven, {"value": None}, asked, great, None, None, *more)
            self.refused(BadMove, {"value": None}, asked, great, AS_IS, None, *more)
            self.refused(TooGreat, {"most": 60}, asked, great, AS_IS, WAIT, *more)
            self.refused(TooGreat, {"most": 8}, asked, nine, AS_IS, WAIT, *more)
        self.refused(TooGreat, {"most": 60}, is_never_paper, great, AS_IS, WAIT, None)
        self.assertEqual(can_ever(main(SIXTY), AS_IS, WAIT), ((0, 0),))
        self.never(main(SIXTY), ("send", None, None))

    def test_programs_of_every_kind(self):
        for value in values_of_every_kind():
            for asked in (can_ever, never_paper):
                with self.assertRaises(ValueError):
                    asked(value, AS_IS, WAIT)
            self.refused(BadGiven, {"value": value}, can_ever, main(STOP), value, WAIT)


class NeverPaper(Case):

    def paper(self, program, wanted, places, given=AS_IS):
        self.assert_same(never_paper(program, given, wanted), places)
        self.assert_same(never_paper(program=program, given=given, wanted=wanted), places)
        self.assertIs(is_never_paper(program=program, given=given, wanted=wanted, paper=places), True)

    def test_places(self):
        # Standings: 0 takes on number 0; 1 sends 0 on 0; 2 sends the stranger, 1, on 0; 3 is nothing.
        self.paper(TAKEN, ("send", 5, None), ((0, -1, -1), (1, -1, -1), (2, -1, -1), (2, 1, -1), (3, -1, -1)))
        self.paper(TAKEN, ("send", 5, 5), ((0, -1, -1), (1, -1, -1), (2, -1, -1), (2, 1, 1), (3, -1, -1)))
        self.paper(TAKEN, ("send", 5, 6), ((0, -1, -1), (1, -1, -1), (2, -1, -1), (2, -1, 1), (2, 1, -1), (3, -1, -1)))
        self.paper(TAKEN, ("send", 5, 0), ((0, -1, 0), (1, -1, 0), (2, -1, 0), (2, 1, 0), (3, -1, -1)))
        self.paper(TAKEN, ("open", 0), ((0, 0, -1), (1, 0, -1), (2, 0, -1), (3, -1, -1)))
        self.paper(TAKEN, ("open", 7), ((0, -1, -1), (1, -1, -1), (2, -1, -1), (2, 1, -1), (3, -1, -1)))
        self.paper(TAKEN, ("open", None), ((0, -1, -1), (1, -1, -1), (2, -1, -1), (3, -1, -1)))
        self.paper(TAKEN, WAIT, ((0, -1, -1), (1, -1, -1), (2, -1, -1), (3, -1, -1)))
        self.paper(TAKEN, ("take", 1), ((0, -1, -1), (1, -1, -1), (2, -1, -1), (2, 1, -1), (3, -1, -1)))
        self.paper(main(STOP), ("take", 0), ((0, -1, -1),))
        self.paper(main(send(3, 4)), ("send", 4, 3), ((0, 1, 0), (1, -1, -1)))
        self.paper(main(send(1, 5)), ("send", 1, 0), ((0, -1, 0), (1, -1, -1)), given=JOINED)

    def test_names_that_stay_and_names_that_come_in_again(self):
        self.paper(MINT, ("send", 3, 3), ((0, 0, 0),))
        self.paper(MINT, ("send", 4, 3), ((0, -1, 0),))
        self.paper(ECHO, ("open", 3), ((0, 0, -1), (1, 0, -1), (2, 0, -1)))
        # What came in, 3 itself or another name, is sent on itself; all is forgotten, and 3 may come in again.
        self.paper(HOP, ("open", 3), ((0, -1, -1), (0, 0, -1), (1, -1, -1), (1, 0, -1)))

    def test_bent_papers(self):
        wanted = ("send", 5, None)
        paper = never_paper(TAKEN, AS_IS, wanted)
        good = [paper[::-1], paper + paper, paper + paper[2:3]]
        for value in good:
            self.assertIs(is_never_paper(TAKEN, AS_IS, wanted, value), True, value)
        bent = [paper[:place] + paper[place + 1:] for place in range(len(paper))]
        bent += [list(paper), paper + (None,), paper + ((0, -1),), paper + ((0, -1, -1, -1),), paper + ([0, -1, -1],),
                 paper[1:] + ((False, -1, -1),), paper + ((True, -1, -1),), paper + ((2, True, -1),), paper + ((4, -1, -1),),
                 paper + ((-1, -1, -1),), paper + ((2, 2, -1),), paper + ((2, -2, -1),), paper + ((2, -1, 0),),
                 paper + ((2, -1, -2),), paper + ((3, 0, -1),), paper + ((0, 1, -1),), paper + ((0.0, -1, -1),), (paper,), ()]
        # There the name 5 is number 0, and a send on it is to come.
        bent += [paper + ((1, 0, -1),), paper + ((0, 0, -1),)]
        for value in bent + values_of_every_kind():
            self.assertIs(is_never_paper(TAKEN, AS_IS, wanted, value), False, value)

    def test_papers_with_more_places_than_are_met(self):
        paper = never_paper(TAKEN, AS_IS, ("open", 7))
        self.assertIs(is_never_paper(TAKEN, AS_IS, ("open", 7), paper + ((0, 0, -1), (1, 0, -1), (2, 0, -1))), True)
        self.assertIs(is_never_paper(TAKEN, AS_IS, ("open", 7), paper + ((0, 0, -1), (1, 0, -1))), False)
        self.assertIs(is_never_paper(TAKEN, AS_IS, ("open", 7), paper + ((1, 0, -1),)), True)

    def test_one_number_only_for_one_name(self):
        places = never_paper(TAKEN, AS_IS, ("send", 5, 6))
        for odd in ((2, 1, 1), (2, 0, 0), (1, 0, 0)):
            self.assertIs(is_never_paper(TAKEN, AS_IS, ("send", 5, 6), places + (odd,)), False, odd)
        places = never_paper(TAKEN, AS_IS, ("send", 5, 5))
        for odd in ((2, 1, -1), (2, -1, 1), (2, 0, 1)):
            self.assertIs(is_never_paper(TAKEN, AS_IS, ("send", 5, 5), places + (odd,)), False, odd)
        self.assertIs(is_never_paper(TAKEN, AS_IS, ("send", 5, 5), places + ((2, 1, 1),)), True)

    def test_a_paper_where_it_comes(self):
        program = main(wait(send(3, 4)))
        every = ((0, 0, 1), (1, 0, 1), (2, -1, -1))
        self.assertIs(is_never_paper(program, AS_IS, ("send", 3, 4), every), False)
        self.assertIs(is_never_paper(program, AS_IS, ("send", 4, 3), ((0, 1, 0), (1, 1, 0), (2, -1, -1))), True)
        self.assertIs(is_never_paper(program, AS_IS, ("send", 4, 3), every), False)

    def test_there_is_a_paper_exactly_if_it_never_comes(self):
        chance = random.Random(22)
        papers = 0
        for program in random_programs(221, 50, 4) + [ECHO, MINT, CIRCLE] + circling_programs(222, 15):
            given = chance.choice((AS_IS, JOINED))
            if oracle.outcome(graph, program, given)[0] == "too great":
                continue
            for wanted in chance.sample(all_wanted((0, 1, 3, 7)), 6):
                try:
                    steps = can_ever(program, given, wanted)
                except NoMove:
                    paper = never_paper(program, given, wanted)
                    self.assertEqual(paper, tuple(sorted(set(paper))))
                    self.assertIs(is_never_paper(program, given, wanted, paper), True)
                    for place in range(len(paper)):
                        self.assertIs(is_never_paper(program, given, wanted, paper[:place] + paper[place + 1:]), False)
                    papers += 1
                else:
                    self.refused(Unlike, {"value": steps}, never_paper, program, given, wanted)
                    places = places_met(program, given, wanted)
                    self.assertIs(is_never_paper(program, given, wanted, places), False)
        self.assertGreater(papers, 50)

    def test_papers_are_the_places_of_runs(self):
        for program in random_programs(223, 25, 4):
            if oracle.outcome(graph, program)[0] == "too great" or len(graph(program)[0]) > 20:
                continue
            for wanted in (("send", 7, 3), ("open", 7), ("take", 7), ("send", None, 1)):
                try:
                    paper = never_paper(program, AS_IS, wanted)
                except Unlike:
                    continue
                self.assertLessEqual(set(places_met(program, AS_IS, wanted)), set(paper))
                if all(len(steps) < 4 for steps, _, _, _ in runs_of(program, AS_IS, 4, (7, 3))):
                    self.assertEqual(places_met(program, AS_IS, wanted), paper)


def places_met(program, given, wanted):
    """The places of all runs of at most 3 steps."""
    first, second = (wanted[1:] + (None, None))[:2]
    sought = [name for name in wanted[1:] if name is not None]
    found = set()
    for _, index, names, _ in runs_of(program, given, 3, sought):
        found.add((index, *[names.index(name) if name in names else -1 for name in (first, second)]))
    return tuple(sorted(found))


class StillSteps(Case):

    def gives(self, program, words, steps, given=AS_IS):
        self.assert_same(still_steps(program, given, words), steps)
        self.assert_same(still_steps(program=program, given=given, words=words), steps)

    def test_each_word(self):
        program = main(send(0, 1, take(0, 2, wait(new(3, send(0, 3, STOP))))))
        self.gives(program, (), ())
        for words in ALL_WORDS:
            self.gives(program, words, () if "send" not in words else ((0, 0),) if "take" not in words else
                       ((0, 0), (0, 0)) if "wait" not in words else ((0, 0), (0, 0), (0, 0)) if "open" not in words else
                       ((0, 0), (0, 0), (0, 0), (0, 0)))

    def test_never_still(self):
        self.refused(NoMove, {}, still_steps, CIRCLE, AS_IS, ("wait",))
        self.gives(CIRCLE, ("open", "send", "take"), ())
        self.refused(NoMove, {}, still_steps, MINT, AS_IS, WORDS)
        self.refused(NoMove, {}, still_steps, ECHO, AS_IS, ("send", "take"))
        self.gives(ECHO, ("take",), ((0, 0),))
        self.gives(ECHO, ("send",), ())

    def test_strangers_have_the_least_names_from_10_on(self):
        program = main(take(0, 1, one(alike(0, 1, wait()), unlike(0, 1, take(0, 2, one(alike(1, 2, wait()), alike(0, 2, wait())))))))
        self.gives(program, ("take", "wait"), ((0, 0), (0, 0)))
        program = main(take(0, 1, one(alike(0, 1, CIRCLE_BRANCH), unlike(0, 1, take(0, 2, one(
            alike(1, 2, CIRCLE_BRANCH), alike(0, 2, CIRCLE_BRANCH)))))), ((), wait(call(0))))
        self.gives(program, ("take", "wait"), ((0, 1, 10), (0, 2, 11)))

    def test_the_least_of_the_shortest(self):
        self.gives(main(one(wait(wait()), wait(send(0, 1)), wait(send(1, 1)))), ("wait",), ((1, 0),))
        self.gives(main(one(wait(wait()), wait(send(0, 1)), send(0, 0))), ("wait",), ((0, 0),))

    def test_against_all_runs(self):
        for program in random_programs(231, 40, 4) + circling_programs(232, 20):
            if oracle.outcome(graph, program)[0] == "too great" or len(graph(program)[0]) > 25:
                continue
            rows = graph(program)[1]
            runs = runs_of(program, AS_IS, 3)
            for words in ALL_WORDS:
                still = [steps for steps, index, _, _ in runs if not {action[0] for action, _ in rows[index]} & set(words)]
                try:
                    steps = still_steps(program, AS_IS, words)
                except NoMove:
                    self.assertTrue(all({action[0] for action, _ in row} & set(words) for row in rows))
                    continue
                self.assertTrue(steps == still[0] if still else len(steps) > 3)

    def test_wrong_words(self):
        wrong = values_of_every_kind() + [
            ("send", "open"), ("open", "open"), ("wait", "take"), ("open", "send", "take", "wait", "wait"), ("open", "close"),
            ("Open",), ("open", None), (b"open",), ["open"], ("openly",), (("open",),), ("open", ["send"])]
        for value in wrong:
            self.refused(BadMove, {"value": value}, still_steps, main(STOP), AS_IS, value)

    def test_the_order_of_errors(self):
        great = main(beside(SIXTY, wait()))
        self.refused(BadPiece, {"path": (1,)}, still_steps, main(HOLE), None, None)
        self.refused(BadGiven, {"value": None}, still_steps, great, None, None)
        self.refused(BadMove, {"value": None}, still_steps, great, AS_IS, None)
        self.refused(TooGreat, {"most": 60}, still_steps, great, AS_IS, ())
        self.assertEqual(len(still_steps(main(SIXTY), AS_IS, ("wait",))), 9)


CIRCLE_BRANCH = wait(call(0))


class Silence(Case):

    def circle(self, program, steps, circle, given=AS_IS):
        self.assert_same(silent_circle(program, given), (steps, circle))
        self.assert_same(silent_circle(program=program, given=given), (steps, circle))
        self.refused(Unlike, {"value": (steps, circle)}, ranks, program, given)

    def test_circles(self):
        self.circle(CIRCLE, (), ((0, 0),))
        self.circle(main(call(0), ((), wait(wait(call(0))))), (), ((0, 0), (0, 0)))
        self.circle(main(send(0, 1, call(0)), ((), wait(wait(call(0))))), ((0, 0),), ((0, 0), (0, 0)))
        self.circle(main(call(0), ((), one(wait(wait(call(0))), wait(call(0))))), (), ((0, 0),))

    def test_two_meet_again_and_again(self):
        ping = ((0,), send(0, 0, call(0, 0)))
        pong = ((0,), take(0, 1, call(1, 0)))
        self.circle(main(new(0, beside(call(0, 0), call(1, 0))), ping, pong), (), ((0, 0),))

    def test_the_least_index_with_the_least_run(self):
        program = main(one(take(0, 1, unlike(0, 1, wait(call(0)))), send(0, 1, waits(3, call(0)))), ((), wait(wait(call(0)))))
        standings, rows = graph(program)
        steps, circle = silent_circle(program, AS_IS)
        self.assertEqual(circle, ((0, 0), (0, 0)))
        index = walked(program, AS_IS, steps)[0]
        self.assertEqual([n for n in range(len(rows)) if on_circle(rows, n)][0], index)
        self.circle(program, steps, circle)

    def test_no_circle(self):
        for program in (main(STOP), main(waits(5)), ECHO, MINT, main(one(wait(), wait(wait())))):
            self.refused(NoMove, {}, silent_circle, program, AS_IS)

    def test_ranks(self):
        for program, told in ((main(STOP), (0,)), (main(waits(3)), (3, 2, 1, 0)), (ECHO, (0,) * 3), (MINT, (0,)),
                              (main(one(waits(3), wait())), (3, 2, 0, 1)), (main(send(0, 1, wait())), (0, 1, 0)),
                              (main(beside(wait(), send(0, 1, wait()))), None)):
            got = ranks(program, AS_IS)
            self.assert_same(ranks(program=program, given=AS_IS), got)
            if told is not None:
                self.assertEqual(sorted(got), sorted(told))
                self.assertEqual(got[0], told[0])
            self.assertEqual(got, longest_waits(graph(program)[1]))
            self.assertIs(are_ranks(program=program, given=AS_IS, value=got), True)

    def test_bent_ranks(self):
        program = main(wait(send(0, 1, wait())))
        good = ranks(program, AS_IS)
        self.assertEqual(good, (1, 0, 1, 0))
        for value in ((1, 0, 1, 0), (2, 0, 1, 0), (1, 0, 7, 6), (10 ** 30, 5, 1, 0), (8, 7, 2, 1)):
            self.assertIs(are_ranks(program, AS_IS, value), True, value)
        bent = [(0, 0, 1, 0), (1, 1, 1, 0), (1, 0, 0, 0), (1, 0, 1), (1, 0, 1, 0, 0), (), [1, 0, 1, 0], (True, 0, 1, 0),
                (1, False, 1, 0), (1, 0, 1.0, 0), (0, -1, 1, 0), (1, None, 1, 0), ((1,), 0, 1, 0), (1, 0, 0, 1)]
        for value in bent + values_of_every_kind():
            self.assertIs(are_ranks(program, AS_IS, value), False, value)

    def test_ranks_exactly_if_there_is_no_circle(self):
        circles = 0
        for program in random_programs(241, 60, 4) + circling_programs(242, 60) + [CIRCLE, MINT, ECHO]:
            for given in (AS_IS, JOINED):
                if oracle.outcome(graph, program, given)[0] == "too great":
                    continue
                rows = graph(program, given)[1]
                on = [index for index in range(len(rows)) if on_circle(rows, index)]
                if not on:
                    self.refused(NoMove, {}, silent_circle, program, given)
                    self.assertEqual(ranks(program, given), longest_waits(rows))
                    self.assertIs(are_ranks(program, given, ranks(program, given)), True)
                    continue
                circles += 1
                steps, circle = silent_circle(program, given)
                self.refused(Unlike, {"value": (steps, circle)}, ranks, program, given)
                self.assertEqual(walked(program, given, steps)[0], on[0])
                self.assertEqual(walked(program, given, steps + circle)[0], on[0])
                self.assertEqual(set(walked(program, given, steps + circle)[2][len(steps):]), {WAIT})
                self.assertEqual(circle, min(circles_at(rows, on[0]), key=lambda row: (len(row), row)))
                runs = [run for run in runs_of(program, given, min(len(steps), 3)) if run[1] == on[0]]
                self.assertTrue(runs[0][0] == steps if len(steps) <= 3 else not runs)
                for value in ((5,) * len(rows), tuple(range(len(rows))), tuple(range(len(rows), 0, -1))):
                    self.assertIs(are_ranks(program, given, value), False)
        self.assertGreater(circles, 20)

    def test_the_order_of_errors(self):
        great = main(beside(SIXTY, wait()))
        for asked, more in ((silent_circle, ()), (ranks, ()), (are_ranks, (None,))):
            self.refused(BadPiece, {"path": (1,)}, asked, main(HOLE), None, *more)
            self.refused(BadGiven, {"value": None}, asked, great, None, *more)
            self.refused(TooGreat, {"most": 60}, asked, great, AS_IS, *more)
            for value in values_of_every_kind():
                self.refused(BadGiven, {"value": value}, asked, main(STOP), value, *more)
        self.assertEqual(ranks(main(SIXTY), AS_IS)[0], 9)
        self.refused(NoMove, {}, silent_circle, main(SIXTY), AS_IS)

    def test_renamed_programs_do_the_same(self):
        given = (3, 3, 1, 0, 4, 5, 6, 7, 8, 9)
        for program in random_programs(243, 30, 4):
            if oracle.outcome(graph, program, given)[0] == "too great":
                continue
            other = renamed(program, given)
            for wanted in all_wanted((3, 1)):
                self.assertEqual(length(program, given, wanted), length(other, AS_IS, wanted))


def length(program, given, wanted):
    """How many steps there are to what is wanted, None if it never comes."""
    try:
        return len(can_ever(program, given, wanted))
    except NoMove:
        return None


def silent_steps(row):
    """The pairs (step, index behind) of the waits in a row of moves."""
    return [((move, 0), rests[0][0]) for move, (action, rests) in enumerate(row) if action == WAIT]


def circles_at(rows, index):
    """All circles from a standing that come to no other standing twice."""
    ahead = [((), index, ())]
    for steps, at, met in ahead:
        for step, behind in silent_steps(rows[at]):
            if behind == index:
                yield steps + (step,)
            elif behind not in met:
                ahead.append((steps + (step,), behind, met + (behind,)))


def on_circle(rows, index):
    """Whether a standing has a circle."""
    return next(circles_at(rows, index), None) is not None


def longest_waits(rows):
    """The greatest number of waits in a row from each standing."""
    def longest(index):
        return max([1 + longest(behind) for _, behind in silent_steps(rows[index])], default=0)

    return tuple(longest(index) for index in range(len(rows)))
