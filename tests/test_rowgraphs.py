"""Point 53: graphs and runs of row programs, their images, what rows that have begun come to."""

import itertools
import random

from passednames.errors import BadGiven, BadIndex, BadKinds, BadPiece, BadProgram, BadStep, TooGreat
from passednames.graphs import graph
from passednames.names import AS_IS
from passednames.rowed import singled
from passednames.rowgraphs import finished, image_of, row_graph, row_run
from passednames.runs import walked
from passednames.sides import side_of
from passednames.silent import alike_weak
from passednames.standings import need_standing
from passednames.tables import Table
from tests import oracle, samples
from tests.rowish import passing_programs, random_row_programs, sends, takes
from tests.samples import (Case, HOLE, STOP, Odd, beside, call, main, new, one, random_programs, send, take, unlike, values_of_every_kind, wait,
                           waits)
from tests.test_likeness import NINE
from tests.test_rowed import EXAMPLE
from tests.test_sentences import BIG

JOINED = (0, 0, 2, 3, 3, 5, 6, 7, 8, 9)
# Sends rows of each length, one behind the other, on a name of their own.
ALL_LENGTHS = main(new(5, beside(sends(5, (0, 1), wait()), takes(5, (3, 4), send(3, 4)))))
OUTSIDE = main(new(5, beside(take(0, 1, send(1, 0, sends(5, (1, 0)))), takes(5, (3, 4), send(4, 3, send(3, 3))))))
# Two threads send a row to a third one: meetings within one row only.
THREE = main(new(5, beside(sends(5, (0, 1)), sends(5, (1, 2)), takes(5, (3, 4), takes(5, (6, 7), send(3, 4, send(6, 7)))))))
ROUND = main(new(5, beside(call(0, 5, 0), call(1, 5))), ((0, 1), sends(0, (1,), call(0, 0, 1))), ((0,), takes(0, (1,), send(1, 1, call(1, 0)))))
MINT = main(call(0, 3), ((0,), new(1, send(0, 1, call(0, 0)))))
# Six names that are known, one that is not, and as many more as there are branches that send a row.
SIX_KNOWN = send(0, 1, send(2, 3, send(4, 6)))
WIDE = main(new(5, beside(one(*[sends(5, ())] * 6), SIX_KNOWN)))
NARROW = main(new(5, beside(one(*[sends(5, ())] * 5), SIX_KNOWN)))
# Few standings, but many if rows pass name by name.
GROWN = main(new(5, beside(sends(5, (0, 0, 0)), takes(5, (1, 2, 3)), waits(3), waits(4))))


def small(program, given=AS_IS):
    """Whether neither the program nor what becomes of it is too great."""
    try:
        row_graph(program, given)
        graph(singled(program), given)
    except TooGreat:
        return False
    return True


class Graphs(Case):

    def test_the_example(self):
        standings, rows = row_graph(EXAMPLE)
        self.assert_same(row_graph(program=EXAMPLE, given=AS_IS), (standings, rows))
        self.assert_same(rows, (((("wait",), ((1, (0, 1)),)),), ((("send", 0, 1), ((2, ()),)),), ()))
        self.assert_same(standings[0], (2, 1, (((1, 2, 1, 0), (2, 0, 1)), ((1, 2, 1, 1), (2,)))))
        single = graph(singled(EXAMPLE))[1]
        self.assertEqual([[action for action, _ in row] for row in single], [[("wait",)]] * 3 + [[("send", 0, 1)], []])

    def test_programs_without_rows(self):
        for program in random_programs(60, 40):
            told = oracle.outcome(graph, program, AS_IS)
            if isinstance(told[0], tuple):
                self.assert_same(row_graph(program), told)

    def test_what_passes(self):
        # Between two threads alone, as many names as are taken, on one number.
        for piece, many in ((new(5, sends(5, (0,))), 0), (new(5, beside(sends(5, (0,)), sends(5, (0,)))), 0), (new(5, beside(takes(5, (0,)), takes(5, (1,)))), 0),
                            (new(5, new(6, beside(sends(5, (0,)), takes(6, (0,))))), 0), (new(5, beside(sends(5, ()), takes(5, ()))), 1),
                            (new(5, one(sends(5, ()), takes(5, ()))), 0), (new(5, beside(one(sends(5, ()), takes(5, ())), one(takes(5, ()), sends(5, ())))), 1),
                            (new(5, beside(one(sends(5, (), wait()), takes(5, ())), one(takes(5, ()), sends(5, ())))), 2),
                            (new(5, beside(samples.alike(5, 5, sends(5, ())), unlike(5, 5, takes(5, ())))), 0),
                            (new(5, new(6, beside(samples.alike(5, 5, sends(5, ())), unlike(5, 6, takes(5, ()))))), 1)):
            _, rows = row_graph(main(piece))
            self.assertEqual([action for action, _ in rows[0]], [("wait",)] * many, piece)

    def test_with_a_second_telling(self):
        counted = 0
        for program in random_row_programs(61, 80) + passing_programs(62, 60):
            for given in (AS_IS, JOINED):
                told = oracle.outcome(oracle.graph, program, given)
                if told[0] == "too great":
                    self.refused(TooGreat, {"most": told[1]}, row_graph, program, given)
                else:
                    self.assert_same(row_graph(program, given), told)
                    counted += 1
        self.assertGreater(counted, 150)

    def test_known_names_carry_no_rows(self):
        # In no run a row can be asked of the outside: sends and takes on known names are single.
        for program in passing_programs(63, 60):
            standings, _ = row_graph(program)
            for known, _, threads in standings:
                for path, numbers in threads:
                    part = oracle.at(program, path)
                    names = dict(zip(sorted(oracle.free(part)), numbers))
                    for branch in part[1] if part[0] == "one" else [part]:
                        while branch[0] in ("alike", "unlike"):
                            branch = branch[3]
                        if branch[0] in ("sends", "takes"):
                            self.assertGreaterEqual(names[branch[1]], known)


class Images(Case):

    def test_the_example(self):
        single = graph(singled(EXAMPLE))[0]
        for index, image in ((0, 0), (1, 3), (2, 4)):
            self.assert_same(image_of(EXAMPLE, AS_IS, index), single[image])
            self.assert_same(image_of(program=EXAMPLE, given=AS_IS, index=index), single[image])

    def test_an_image_does_what_the_standing_does(self):
        counted = {"alone": 0, 1: 0, 2: 0, 3: 0}
        for program in random_row_programs(64, 30) + passing_programs(65, 50) + [ALL_LENGTHS, OUTSIDE, THREE, ROUND]:
            for given in (AS_IS, JOINED):
                if small(program, given):
                    self.does_the_same(program, given, counted)
        self.assertGreater(min(counted["alone"], counted[1], counted[2], 20 * counted[3]), 30, counted)

    def does_the_same(self, program, given, counted):
        standings, rows = row_graph(program, given)
        if len(standings) > 25:
            return
        single = singled(program)
        singles, moves = graph(single, given)
        images = [image_of(program, given, index) for index in range(len(standings))]
        self.assert_same(images[0], singles[0])
        self.assertEqual(len(set(images)), len(images))
        for standing, image in zip(standings, images):
            self.assertIs(need_standing(single, image), image)
            self.assertEqual(image[0], standing[0])
            self.assertEqual(len(image[2]), len(standing[2]))
        places = [singles.index(image) for image in images]
        for index, row in enumerate(rows):
            lengths = lengths_of_rows(program, standings[index])
            told = moves[places[index]]
            for action, rests in row:
                wanted = (action, tuple((places[rest], keys) for rest, keys in rests))
                if wanted in told:
                    counted["alone"] += 1
                    continue
                # A row of names passes: one wait and one for each name.
                self.assertEqual(action, ("wait",))
                steps = least_waits(moves, places[index], standings[index][0], wanted[1][0])
                self.assertIn(len(steps) - 1, lengths)
                counted[len(steps) - 1] += 1
            # The image has no moves but these, and those with which a row begins.
            for action, rests in told:
                if action != ("wait",):
                    self.assertIn((action, tuple((places.index(rest), keys) for rest, keys in rests)), row)

    def test_indexes(self):
        for index in values_of_every_kind() + [3, -1, True, False, 1.0]:
            self.refused(BadIndex, {"value": index}, image_of, EXAMPLE, AS_IS, index)

    def test_more_than_twelve_names(self):
        self.assertEqual([standing[:2] for standing in row_graph(WIDE)[0]], [(6, 1), (4, 1), (2, 1), (0, 1)])
        self.refused(TooGreat, {"most": 12}, image_of, WIDE, AS_IS, 0)
        self.assertEqual(image_of(WIDE, AS_IS, 1)[:2], (4, 7))
        self.refused(BadIndex, {"value": 4}, image_of, WIDE, AS_IS, 4)
        self.assertEqual(image_of(NARROW, AS_IS, 0)[:2], (6, 6))
        self.assert_same(image_of(NARROW, AS_IS, 0), graph(singled(NARROW))[0][0])
        # The graph of the singled program is not made.
        self.refused(TooGreat, {"most": 60}, graph, singled(GROWN))
        for index in range(len(row_graph(GROWN)[0])):
            self.assertIs(type(image_of(GROWN, AS_IS, index)), tuple)

    def test_errors(self):
        for asked, more in ((row_graph, ()), (image_of, (None,)), (row_run, (None,)), (finished, (None,))):
            self.refused(BadPiece, {"path": (1,)}, asked, main(HOLE), None, *more)
            self.refused(BadProgram, {"place": ()}, asked, None, None, *more)
            self.refused(BadKinds, {"place": (1,)}, asked, main(sends(0, ())), None, *more)
            for value in values_of_every_kind():
                self.refused(BadGiven, {"value": value}, asked, EXAMPLE, value, *more)
                with self.assertRaises((BadProgram, BadPiece, TooGreat)):
                    asked(value, AS_IS, *more)
            for program, most in ((main(NINE), 8), (BIG, 60)):
                self.refused(BadGiven, {"value": None}, asked, program, None, *more)
                self.refused(TooGreat, {"most": most}, asked, program, AS_IS, *more)
        ten = send(0, 1, send(2, 3, send(4, 6, send(7, 8, send(9, 9)))))
        for asked in (image_of, row_run, finished):
            # A name is lacking, or the singled program is too deep, ahead of the graph and what comes behind it.
            self.refused(TooGreat, {"most": 10}, asked, main(new(5, beside(NINE, sends(5, (), ten)))), AS_IS, None)
            self.refused(TooGreat, {"most": 12}, asked, main(new(5, waits(9, sends(5, ())))), AS_IS, None)
            self.refused(BadGiven, {"value": None}, asked, main(new(5, sends(5, (), ten))), None, None)


def lengths_of_rows(program, standing):
    """The lengths of the rows that may pass at a standing."""
    found = set()
    for path, _ in standing[2]:
        part = oracle.at(program, path)
        for branch in part[1] if part[0] == "one" else [part]:
            while branch[0] in ("alike", "unlike"):
                branch = branch[3]
            if branch[0] == "sends":
                found.add(len(branch[2]))
    return found


def least_waits(moves, start, known, target):
    """The least row of waits to a target, by trying all rows of each length in order."""
    for length in range(1, 9):
        found = rows_of_waits(moves, start, tuple(range(known)), target, length)
        if found is not None:
            return found
    raise AssertionError((start, target))


def rows_of_waits(moves, index, keys, target, length):
    """The least row of just so many waits to a target, None if there is none."""
    if length == 0:
        return () if (index, keys) == target else None
    for move, (action, rests) in enumerate(moves[index]):
        if action == ("wait",):
            behind, inner = rests[0]
            found = rows_of_waits(moves, behind, tuple(keys[number] for number in inner), target, length - 1)
            if found is not None:
                return ((move, 0),) + found
    return None


class Runs(Case):

    def test_the_example(self):
        self.assert_same(row_run(EXAMPLE, AS_IS, ()), ())
        self.assert_same(row_run(EXAMPLE, AS_IS, ((0, 0),)), ((0, 0),) * 3)
        self.assert_same(row_run(program=EXAMPLE, given=AS_IS, steps=((0, 0), (0, 0))), ((0, 0),) * 4)

    def told(self, program, given, steps):
        """The steps of row_run, told once more."""
        standings, rows = row_graph(program, given)
        singles, moves = graph(singled(program), given)
        place = {index: singles.index(image_of(program, given, index)) for index in range(len(standings))}
        index, found = 0, ()
        for step in steps:
            action, rests = rows[index][step[0]]
            rest, keys = rests[step[1]]
            target = (place[rest], keys)
            if action == ("wait",):
                found += least_waits(moves, place[index], standings[index][0], target)
            else:
                fitting = [move for move, (done, others) in enumerate(moves[place[index]]) if done == action and others[step[1]] == target]
                found += ((fitting[0], *step[1:]),)
            index = rest
        return found

    def test_drawn_runs(self):
        chance = random.Random(66)
        counted = 0
        for program in random_row_programs(67, 20) + passing_programs(68, 40) + [ALL_LENGTHS, OUTSIDE, THREE, ROUND] * 4:
            for given in (AS_IS, JOINED):
                if not small(program, given):
                    continue
                run = Run(program, given)
                while len(run.steps) < 8 and run.rows[run.index]:
                    run.draw(chance)
                steps = run.steps
                found = row_run(program, given, steps)
                self.assert_same(found, self.told(program, given, steps))
                index, names, trace = walked(singled(program), given, found)
                self.assertEqual(graph(singled(program), given)[0][index], image_of(program, given, run.index))
                self.assertEqual(names, run.names)
                self.assertEqual([action for action in trace if action != ("wait",)], [action for action in run.trace if action != ("wait",)])
                counted += len(found) > len(steps)
        self.assertGreater(counted, 30)

    def test_wrong_steps(self):
        good = ((0, 0), (0, 0))
        for value in values_of_every_kind() + [list(good)]:
            if type(value) is tuple:
                continue
            self.refused(BadStep, {"place": 0}, row_run, EXAMPLE, AS_IS, value)
        for value in values_of_every_kind() + [(0, 1), (1, 0), (0, 0, 0), (0, 0, 7), (True, 0), (0, False), [0, 0], (0,), (-1, 0), (0, -1)]:
            self.refused(BadStep, {"place": 0}, row_run, EXAMPLE, AS_IS, (value,) + good)
            self.refused(BadStep, {"place": 1}, row_run, EXAMPLE, AS_IS, good[:1] + (value,))
            self.refused(BadStep, {"place": 2}, row_run, EXAMPLE, AS_IS, good + (value,))

    def test_strangers(self):
        # Index 0 takes on 0: the rests are those of 0 and of the others, the last is the stranger.
        standings, rows = row_graph(OUTSIDE)
        known = standings[0][0]
        self.assertEqual(rows[0][0][0][0], "take")
        for name in (7, 10, 10 ** 6):
            steps = ((0, known, name), (0, 0), (0, 0))
            self.assert_same(row_run(OUTSIDE, AS_IS, steps), ((0, known, name), (0, 0)) + ((0, 0),) * 3)
        for wrong in ((0, known, 0), (0, known), (0, 0, 7), (0, known, 10 ** 6 + 1), (0, known, -1), (0, known, None), (0, known, True), (0, known + 1, 7)):
            self.refused(BadStep, {"place": 0}, row_run, OUTSIDE, AS_IS, (wrong,))
        # A name above 10 ** 6 is opened by no step.
        both = main(call(0, 3), ((0,), new(1, one(take(0, 2, call(0, 0)), send(0, 1, call(0, 0))))))
        self.refused(BadStep, {"place": 1}, row_run, both, AS_IS, ((1, 1, 10 ** 6), (0, 0)))
        self.assert_same(row_run(both, AS_IS, ((1, 1, 10 ** 6 - 1), (0, 0))), ((1, 1, 10 ** 6 - 1), (0, 0)))

    def test_how_many_steps(self):
        fifty = ((0, 0),) * 50
        self.assert_same(row_run(MINT, AS_IS, fifty), fifty)
        self.refused(TooGreat, {"most": 50}, row_run, MINT, AS_IS, fifty + ((0, 0),))
        self.refused(TooGreat, {"most": 50}, row_run, MINT, AS_IS, (None,) * 51)
        self.refused(BadStep, {"place": 0}, row_run, MINT, AS_IS, (None,) * 50)

    def test_waits_that_become_several(self):
        for many in range(4):
            program = main(new(5, beside(sends(5, (0,) * many, wait()), takes(5, (1, 2, 3)[:many], send(0, 0)))))
            steps = row_run(program, AS_IS, ((0, 0),))
            self.assert_same(steps, ((0, 0),) * (1 + many))

    def test_errors(self):
        # Those of the graph of the singled program come ahead of the steps.
        self.refused(TooGreat, {"most": 60}, row_run, GROWN, AS_IS, None)
        self.refused(TooGreat, {"most": 60}, finished, GROWN, AS_IS, None)
        self.refused(TooGreat, {"most": 12}, row_run, WIDE, AS_IS, None)
        self.refused(TooGreat, {"most": 12}, finished, WIDE, AS_IS, None)


class Run:
    """A run of a row program, as walked would tell it."""

    def __init__(self, program, given):
        _, self.rows = oracle.graph(program, given)
        self.names = oracle.first(program, given)[1]
        self.index, self.steps, self.trace, self.used = 0, (), (), 9

    def draw(self, chance):
        """Makes a step that is drawn, with strangers of every kind."""
        move = chance.randrange(len(self.rows[self.index]))
        action, rests = self.rows[self.index][move]
        rest = chance.randrange(len(rests))
        step, came = (move, rest), 0
        if action[0] == "take" and rest == len(rests) - 1:
            came = chance.choice([name for name in range(40) if name not in self.names])
            step += (came,)
        elif action[0] == "take":
            came = self.names[rest]
        elif action[0] == "send":
            came = self.names[action[2]]
        elif action[0] == "open":
            came = self.used + 1
        self.steps += (step,)
        self.trace += (action if action[0] == "wait" else (action[0], self.names[action[1]], came),)
        self.used = max(self.used, came)
        self.index, keys = rests[rest]
        self.names = tuple(came if key == len(self.names) else self.names[key] for key in keys)


class Finished(Case):

    def test_the_example(self):
        for index, told in enumerate([(0, (0, 1), 0), (1, (0, 1), 2), (1, (1, 0), 1), (1, (0, 1), 0), (2, (), 0)]):
            self.assert_same(finished(EXAMPLE, AS_IS, index), told)
            self.assert_same(finished(program=EXAMPLE, given=AS_IS, index=index), told)

    def test_all_orders_of_meeting(self):
        met = {0: 0, 1: 0, 2: 0, 3: 0}
        for program in random_row_programs(69, 15) + passing_programs(70, 40) + [ALL_LENGTHS, OUTSIDE, THREE, ROUND]:
            if not small(program):
                continue
            standings, _ = row_graph(program)
            single = singled(program)
            singles, _ = graph(single)
            images = [image_of(program, AS_IS, index) for index in range(len(standings))]
            for index, standing in enumerate(singles):
                told = finished(program, AS_IS, index)
                ends = {(images.index(end), keys, many) for end, keys, many in all_ends(program, single, standing)}
                self.assertEqual(ends, {told})
                self.assertEqual(told[2] == 0, standing in images)
                met[told[2]] = met.get(told[2], 0) + 1
        self.assertGreater(min(met[many] for many in (0, 1, 2)), 20, met)

    def test_two_rows_at_once(self):
        piece = new(5, new(6, beside(sends(5, (0, 1)), takes(5, (3, 4), send(3, 4)), sends(6, (2,)), takes(6, (3,), send(3, 3)))))
        program = main(piece)
        singles, _ = graph(singled(program))
        told = [finished(program, AS_IS, index) for index in range(len(singles))]
        self.assertEqual(max(many for _, _, many in told), 3)
        for index, (place, keys, many) in enumerate(told):
            self.assertEqual(len(keys), row_graph(program)[0][place][0])

    def test_weakly_alike(self):
        """Each standing of the singled program is weakly alike to what it is finished to, by KEYS."""
        from passednames.pairs import Pair
        from passednames.rounds import always_stays
        counted = 0
        for program in passing_programs(71, 30) + [ALL_LENGTHS, OUTSIDE, THREE]:
            if not small(program):
                continue
            single = singled(program)
            side = side_of(Table(single), AS_IS)
            pair = Pair(side, side, "weak")
            singles, _ = graph(single)
            for index in range(len(singles)):
                place, keys, _ = finished(program, AS_IS, index)
                end = singles.index(image_of(program, AS_IS, place))
                try:
                    self.assertIs(always_stays(pair, (index, end, tuple(sorted((key, number) for number, key in enumerate(keys))))), True)
                except TooGreat:
                    continue
                counted += 1
        self.assertGreater(counted, 100)

    def test_weakly_alike_row_programs(self):
        left = main(new(5, beside(sends(5, (0, 1)), takes(5, (3, 4), send(3, 4)))))
        right = main(new(5, beside(sends(5, (0,)), takes(5, (3,), send(3, 1)))))
        none = main(send(0, 1))
        wrong = main(new(5, beside(sends(5, (0, 1)), takes(5, (3, 4), send(4, 3)))))
        for first, second, told in ((left, right, True), (left, none, True), (left, wrong, False), (right, wrong, False)):
            self.assertIs(alike_weak(singled(first), singled(second)), told)

    def test_indexes(self):
        for index in values_of_every_kind() + [5, -1, True, False, 1.0]:
            self.refused(BadIndex, {"value": index}, finished, EXAMPLE, AS_IS, index)
        for given in (AS_IS, JOINED):
            many = len(graph(singled(THREE), given)[0])
            self.refused(BadIndex, {"value": many}, finished, THREE, given, many)
            self.assertEqual(finished(THREE, given, many - 1)[2], 0)


def all_ends(program, single, standing):
    """All (standing, KEYS, meetings) to which the rows that have begun can come, by every order of meetings."""
    inner = inner_paths(program)
    ends = set()
    ahead = [(standing, tuple(range(standing[0])), 0)]
    while ahead:
        here, keys, many = ahead.pop()
        offers = [offer for offer in oracle.offers(single, here) if offer[1] in inner]
        meetings = []
        for place, path, names in offers:
            for other, path2, names2 in offers:
                piece, piece2 = oracle.at(single, path), oracle.at(single, path2)
                if (piece[0], piece2[0]) == ("send", "take") and names[piece[1]] == names2[piece2[1]]:
                    meetings.append((place, other))
        if not meetings:
            ends.add((here, keys, many))
        for place, other in meetings:
            for action, rests in oracle.moves(single, here):
                rest, back = rests[0]
                if action == ("wait",) and moved(here, rest, place, other):
                    ahead.append((rest, tuple(keys[number] for number in back), many + 1))
    return ends


def moved(here, rest, place, other):
    """Whether a rest has gone on by the threads at these two places (paths of the others stay)."""
    left = [path for at, (path, _) in enumerate(here[2]) if at not in (place, other)]
    paths = [path for path, _ in rest[2]]
    gone = [here[2][place][0], here[2][other][0]]
    return all(path in paths for path in left) and not any(path in paths for path in gone)


def inner_paths(program):
    """The paths in the singled program of the sends and takes on a row's own name."""
    found = set()

    def go(piece, image):
        word = piece[0]
        if word == "beside":
            for place, part in enumerate(piece[1]):
                go(part, image + (1, place))
        elif word == "new":
            go(piece[2], image + (2,))
        elif word != "call":
            branches = piece[1] if word == "one" else [piece]
            news = sum(prefix(branch)[0] == "sends" for branch in branches)
            for place, branch in enumerate(branches):
                path = image + (2,) * news + ((1, place) if word == "one" else ())
                while branch[0] in ("alike", "unlike"):
                    branch, path = branch[3], path + (3,)
                if branch[0] in ("sends", "takes"):
                    for _ in branch[2]:
                        path += (3,)
                        found.add(path)
                go(branch[-1], path + ((1,) if branch[0] == "wait" else (3,)))

    for number, (_, body) in enumerate(program[0]):
        go(body, (0, number, 1))
    go(program[1], (1,))
    return found


def prefix(branch):
    """What stands behind the tests of a branch."""
    while branch[0] in ("alike", "unlike"):
        branch = branch[3]
    return branch
