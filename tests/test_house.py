"""Points 57 to 60: houses, deeds, what a house tells, the standing of a house as a program."""

import random

from passednames.conditions import joined
from passednames.errors import BadDeed, BadGiven, BadParameter, BadPiece, BadProgram, NoMove, NothingBack, TooGreat
from passednames.graphs import graph
from passednames.house import House
from passednames.likeness import alike
from passednames.moving import moves
from passednames.names import AS_IS
from passednames.programs import renamed
from passednames.runs import walked
from passednames.silent import alike_rooted, alike_weak
from passednames.standings import start
from tests import oracle, samples
from tests.samples import (Case, HOLE, STOP, Odd, beside, call, circling_programs, main, near_programs, new, one, random_programs, send, take,
                           unlike, values_of_every_kind, wait, waits)
from tests.test_likeness import NINE

JOINED = (0, 0, 2, 3, 3, 5, 6, 7, 8, 9)
ECHO = main(call(0, 3), ((0,), take(0, 1, send(1, 1, call(0, 0)))))
MINT = main(call(0, 3), ((0,), new(1, send(0, 1, call(0, 0)))))
BOTH = main(call(0, 3), ((0,), new(1, one(take(0, 2, call(0, 0)), send(0, 1, call(0, 0))))))
# Takes two names and keeps them.
KEEPER = main(take(3, 1, take(3, 2, send(1, 2, send(2, 1)))))
FOUR = beside(wait(), wait(), wait(), wait())
SPLITTING = main(wait(beside(FOUR, FOUR, wait())))


class Model:
    """A house told once more: what it holds behind its deeds, all told from the first one on."""

    def __init__(self, program, given, deeds=()):
        self.program = program
        self.standing, self.names = oracle.first(program, given)
        self.used = set(range(10))
        self.trace = ()
        for deed in deeds:
            assert self.do(deed)

    def do(self, deed):
        """Does a deed; whether it is let."""
        if deed[0] == "join":
            return self.join(deed)
        row = oracle.moves(self.program, self.standing)
        if deed[0] >= len(row) or deed[1] >= len(row[deed[0]][1]):
            return False
        action, rests = row[deed[0]]
        stranger = action[0] == "take" and deed[1] == len(self.names)
        if stranger != (len(deed) == 3):
            return False
        came = None
        if action[0] == "take":
            came = deed[2] if stranger else self.names[deed[1]]
            if stranger and (came in self.names or came > 10 ** 6):
                return False
        if action[0] == "open":
            came = max(self.used) + 1
            if came > 10 ** 6:
                return False
        if action[0] == "send":
            came = self.names[action[2]]
        self.trace += (action if action[0] == "wait" else (action[0], self.names[action[1]], came),)
        self.standing, keys = rests[deed[1]]
        self.used |= {came} - {None}
        self.names = tuple(came if key == len(self.names) else self.names[key] for key in keys)
        return True

    def join(self, deed):
        if deed[1] not in self.names or deed[2] not in self.names:
            return False
        places = [self.names.index(deed[1]), self.names.index(deed[2])]
        joining = tuple(min(places) if number in places else number for number in range(len(self.names)))
        self.standing, keys = joined(self.program, self.standing, joining)
        self.names = tuple(min(deed[1:]) if key in places else self.names[key] for key in keys)
        self.trace += (deed,)
        return True


def drawn_deed(chance, house):
    """A deed that is drawn: mostly one that can be done."""
    row, names = house.moves(), house.names()
    if chance.randrange(5) == 0 and len(names) > 1:
        return ("join", *chance.sample(names, 2))
    if not row or chance.randrange(12) == 0:
        return chance.choice([(0, 0), (1, 0, 7), (9, 0), ("join", 0, 99), ("join", 3, 4), (0, 1), (0, 0, 10 ** 7)])
    move = chance.randrange(len(row))
    rest = chance.randrange(len(row[move][1]))
    if row[move][0][0] == "take" and rest == len(names):
        return (move, rest, chance.choice([name for name in range(30) if name not in names]))
    return (move, rest)


class Beginning(Case):

    def test_what_it_holds_at_first(self):
        for program, given in ((main(STOP), AS_IS), (ECHO, AS_IS), (ECHO, JOINED), (main(new(5, send(3, 5))), JOINED)):
            house = House(program, given)
            self.assert_same((house.standing(), house.names()), start(program, given))
            self.assertIs(house.program, program)
            self.assertIs(house.given, given)
            self.assert_same(house.moves(), moves(program, house.standing()))
            self.assert_same((house.log(), house.trace(), len(house), list(house)), ((), (), 0, []))
            self.assertTrue(house == House(program=program, given=given))
        self.assertIs(House(ECHO).given, AS_IS)

    def test_errors(self):
        self.refused(BadPiece, {"path": (1,)}, House, main(HOLE), None)
        self.refused(BadProgram, {"place": ()}, House, None, None)
        for value in values_of_every_kind():
            self.refused(BadGiven, {"value": value}, House, main(NINE), value)
            with self.assertRaises((BadProgram, BadPiece, TooGreat)):
                House(value)
        self.refused(TooGreat, {"most": 8}, House, main(NINE))
        thirteen = main(new(1, new(2, new(3, send(0, 1, send(2, 3, send(4, 5, send(6, 7, send(8, 9)))))))))
        self.assertEqual(House(thirteen).standing()[:2], (7, 3))
        inner = send(0, 0, send(1, 1, send(2, 2, send(3, 3))))
        wide = main(new(0, new(1, new(2, new(3, beside(inner, send(4, 5, send(6, 7, send(8, 9)))))))))
        self.assertEqual(House(wide).standing()[:2], (6, 4))
        # More standings than a graph may have are no matter.
        self.assertEqual(House(main(beside(waits(4), waits(4), waits(4)))).moves()[0][0], ("wait",))


class Deeds(Case):

    def test_steps(self):
        house = House(ECHO)
        self.assertIsNone(house.do((0, 1, 77)))
        self.assert_same((house.names(), house.trace(), house.log()), ((3, 77), (("take", 3, 77),), ((0, 1, 77),)))
        self.assertIsNone(house.do(deed=(0, 0)))
        self.assert_same((house.names(), house.trace()), ((3,), (("take", 3, 77), ("send", 77, 77))))
        # 77 has been forgotten, and may come in again; 3 is known.
        self.refused(NoMove, {}, house.do, (0, 1, 3))
        house.do((0, 1, 77))
        self.assert_same(house.names(), (3, 77))
        self.assert_same(len(house), 3)

    def test_names_that_are_opened(self):
        house = House(BOTH)
        house.do((0, 0))
        self.assert_same(house.trace(), (("open", 3, 10),))
        house.do((1, 1, 500))
        house.do((0, 0))
        self.assert_same(house.trace()[2], ("open", 3, 501))
        house.undo()
        house.undo()
        # 500 came up only there: it is in use no more.
        house.do((0, 0))
        self.assert_same(house.trace(), (("open", 3, 10), ("open", 3, 11)))
        house.do((1, 1, 10 ** 6))
        self.refused(NoMove, {}, house.do, (0, 0))
        house.undo()
        house.do((1, 1, 10 ** 6 - 1))
        house.do((0, 0))
        self.assert_same(house.trace()[-1], ("open", 3, 10 ** 6))
        self.refused(NoMove, {}, house.do, (1, 1, 10 ** 6 + 1))

    def test_joins(self):
        house = House(KEEPER)
        house.do((0, 1, 20))
        house.do((0, 2, 12))
        self.assert_same(house.names(), (20, 12))
        self.assertIsNone(house.do(("join", 20, 12)))
        self.assert_same((house.names(), house.trace()[-1]), ((12,), ("join", 20, 12)))
        self.assert_same(house.standing()[:2], (1, 0))
        self.assertEqual(house.offers(), (("send", 12),))
        house.do((0, 0))
        self.assert_same(house.trace()[-1], ("send", 12, 12))
        # Both stay in use: what is opened is above them.
        opener = House(main(send(3, 4, new(5, send(3, 5, send(4, 4))))), (0, 1, 2, 3, 9, 5, 6, 7, 8, 9))
        opener.do(("join", 9, 3))
        opener.do((0, 0))
        opener.do((0, 0))
        self.assert_same(opener.trace(), (("join", 9, 3), ("send", 3, 3), ("open", 3, 10)))

    def test_joined_names_keep_their_order(self):
        program = main(send(0, 1, send(2, 3, send(4, 5))))
        for pair in [(a, b) for a in range(6) for b in range(6) if a != b]:
            house = House(program)
            house.do(("join", *pair))
            self.assertEqual(sorted(house.names()), sorted(set(range(6)) - {max(pair)}))
            for _ in range(3):
                house.do((0, 0))
            told = [min(pair) if name in pair else name for name in range(6)]
            self.assert_same(house.trace()[1:], tuple(("send", told[2 * place], told[2 * place + 1]) for place in range(3)))

    def test_what_is_no_deed(self):
        house = House(ECHO)
        wrong = values_of_every_kind() + [(0,), (0, 0, 0, 0), [0, 0], (0, -1), (-1, 0), (True, 0), (0, False), (0, 0.0), (0, None), (0, 1, -1), (0, 1, True), (0, 1, None),
                                          ("join",), ("join", 0), ("join", 0, 1, 2), ("join", 0, 0), ("join", -1, 0), ("join", True, 0), ("join", 0, True), ("join", 0.0, 1),
                                          ("join", None, 1), ["join", 0, 1], ("Join", 0, 1), ("join", "a", "b"), ("undo",), ("join", (0,), (1,)), (b"join", 0, 1)]
        for value in wrong:
            self.refused(BadDeed, {"place": 0}, house.do, value)
            self.refused(BadDeed, {"place": 0}, house.follow, (value,))
            self.refused(BadDeed, {"place": 0}, house.trial, (value,))
            self.refused(BadDeed, {"place": 2}, house.follow, ((0, 1, 7), (0, 0), value, None))
            self.refused(BadDeed, {"place": 2}, house.trial, ((9, 9), (0, 0), value, None))
            self.assertEqual(len(house), 0)

    def test_refused_deeds_change_nothing(self):
        house = House(KEEPER)
        house.do((0, 1, 20))
        before = (house.standing(), house.names(), house.log(), house.trace())
        for deed in ((1, 0), (0, 3), (0, 2), (0, 2, 20), (0, 2, 3), (0, 0, 5), (0, 2, 10 ** 6 + 1), (0, 2, 10 ** 30), ("join", 20, 99), ("join", 4, 5), ("join", 3, 4),
                     (10 ** 30, 0), (0, 10 ** 30)):
            self.refused(NoMove, {}, house.do, deed)
            self.refused(NoMove, {}, house.follow, (deed,))
            self.assert_same((house.standing(), house.names(), house.log(), house.trace()), before)
            self.assert_same(house.trial((deed,)), (0, house.standing(), house.names()))

    def test_moves_that_are_too_great(self):
        house = House(SPLITTING)
        for asked in (house.moves, house.offers):
            self.refused(TooGreat, {"most": 8}, asked)
        self.refused(TooGreat, {"most": 8}, house.do, (0, 0))
        # Whatever the step is; but what is no deed is refused ahead of that, and a join asks for no moves.
        self.refused(TooGreat, {"most": 8}, house.do, (7, 7, 7))
        self.refused(BadDeed, {"place": 0}, house.do, (7,))
        self.refused(NoMove, {}, house.do, ("join", 1, 2))
        self.refused(TooGreat, {"most": 8}, house.follow, ((0, 0),))
        self.assert_same(house.trial(((0, 0),)), (0, house.standing(), ()))
        late = House(main(wait(SPLITTING[1])))
        self.refused(TooGreat, {"most": 8}, late.follow, ((0, 0), (0, 0)))
        self.assertEqual(len(late), 0)
        self.assertEqual(late.trial(((0, 0), (0, 0), (0, 0)))[0], 1)

    def test_follow(self):
        for wrong in range(4):
            house = House(ECHO)
            deeds = [(0, 1, 50), (0, 0), (0, 1, 60), (0, 0)]
            deeds[wrong] = (5, 5)
            self.refused(NoMove, {}, house.follow, tuple(deeds))
            self.assertEqual((len(house), house.names()), (0, (3,)))
            done, standing, names = house.trial(tuple(deeds))
            self.assertEqual(done, wrong)
            self.assertIsNone(house.follow(tuple(deeds[:wrong])))
            self.assert_same((house.standing(), house.names(), len(house)), (standing, names, wrong))
            deeds[wrong] = None
            self.refused(BadDeed, {"place": wrong}, house.follow, tuple(deeds))
        house = House(ECHO)
        self.assertIsNone(house.follow(deeds=((0, 1, 50), (0, 0), (0, 0))))
        self.assert_same(house.log(), ((0, 1, 50), (0, 0), (0, 0)))
        self.assertIsNone(house.follow(()))
        self.assertEqual(len(house), 3)
        # The error of the first deed that is refused.
        self.refused(NoMove, {}, House(SPLITTING).follow, (("join", 0, 1), (0, 0)))
        self.refused(TooGreat, {"most": 8}, House(SPLITTING).follow, ((0, 0), ("join", 0, 1)))

    def test_sixty_deeds(self):
        sixty = ((0, 0),) * 60
        house = House(MINT)
        self.assertEqual(house.trial(deeds=sixty)[0], 60)
        house.follow(sixty)
        self.assertEqual((len(house), house.trace()[-1]), (60, ("open", 3, 69)))
        for asked in (house.follow, house.trial):
            self.refused(BadDeed, {"place": 60}, asked, sixty + ((0, 0),))
            self.refused(BadDeed, {"place": 60}, asked, (None,) * 61)
            self.refused(BadDeed, {"place": 0}, asked, (None,) * 60)
            for value in values_of_every_kind() + [list(sixty)]:
                if not isinstance(value, tuple):
                    self.refused(BadDeed, {"place": 0}, asked, value)
        # Any number may be done in turn.
        house.follow(sixty)
        self.assertEqual(len(house), 120)

    def test_undo(self):
        house = House(KEEPER)
        self.refused(NothingBack, {}, house.undo)
        held = [(house.standing(), house.names(), house.log(), house.trace())]
        for deed in ((0, 1, 20), (0, 2, 12), (0, 0)):
            house.do(deed)
            held.append((house.standing(), house.names(), house.log(), house.trace()))
        house.follow(())
        for before in held[-2::-1]:
            self.assertIsNone(house.undo())
            self.assert_same((house.standing(), house.names(), house.log(), house.trace()), before)
        self.refused(NothingBack, {}, house.undo)
        self.assertTrue(house == House(KEEPER))


class Told(Case):

    def test_drawn_deeds(self):
        chance = random.Random(58)
        counted = {"done": 0, "refused": 0, "join": 0, "undo": 0}
        programs = random_programs(581, 40) + circling_programs(582, 30) + [each for pair in near_programs(583, 20) for each in pair] + [ECHO, MINT, BOTH, KEEPER] * 3
        for program in programs:
            given = chance.choice((AS_IS, JOINED))
            if oracle.outcome(oracle.first, program, given)[0] == "too great":
                continue
            house, deeds, copies = House(program, given), [], []
            for _ in range(14):
                if oracle.outcome(oracle.moves, program, house.standing())[:1] == ("too great",):
                    break
                if deeds and chance.randrange(6) == 0:
                    house.undo()
                    deeds.pop()
                    counted["undo"] += 1
                    continue
                if chance.randrange(5) == 0:
                    copies.append((house.copy(), list(deeds)))
                deed = drawn_deed(chance, house)
                if Model(program, given, deeds).do(deed):
                    house.do(deed)
                    deeds.append(deed)
                    counted["join" if deed[0] == "join" else "done"] += 1
                else:
                    self.refused(NoMove, {}, house.do, deed)
                    counted["refused"] += 1
                self.agrees(house, program, given, deeds)
            for other, done in copies:
                self.agrees(other, program, given, done)
        self.assertGreater(min(counted.values()), 40, counted)

    def agrees(self, house, program, given, deeds):
        model = Model(program, given, deeds)
        self.assert_same((house.standing(), house.names(), house.trace(), house.log()), (model.standing, model.names, model.trace, tuple(deeds)))
        self.assertEqual((len(house), list(house)), (len(deeds), deeds))
        self.assert_same(House(program, given).trial(tuple(deeds)), (len(deeds), model.standing, model.names))
        if oracle.outcome(oracle.moves, program, house.standing())[:1] != ("too great",):
            offers = {(action[0], model.names[action[1]]) for action, _ in oracle.moves(program, model.standing) if action[0] != "wait"}
            self.assert_same(house.offers(), tuple(sorted(offers)))
        if not any(deed[0] == "join" for deed in deeds) and oracle.outcome(oracle.graph, program, given)[0] != "too great":
            index, names, trace = walked(program, given, tuple(deeds))
            self.assert_same((graph(program, given)[0][index], names, trace), (house.standing(), house.names(), house.trace()))

    def test_offers(self):
        program = main(beside(send(0, 1), take(2, 3), new(5, send(4, 5)), one(wait(), send(0, 2))))
        self.assert_same(House(program).offers(), (("open", 4), ("send", 0), ("take", 2)))
        self.assert_same(House(program, (7, 7, 3, 7, 1, 7, 7, 7, 7, 7)).offers(), (("open", 1), ("send", 7), ("take", 3)))
        self.assert_same(House(main(wait())).offers(), ())

    def test_iteration(self):
        house = House(ECHO)
        deeds = ((0, 1, 50), (0, 0), (0, 1, 51))
        house.follow(deeds)
        self.assertEqual([deed for deed in house], list(deeds))
        self.assertEqual(tuple(house), deeds)
        self.assertIn((0, 0), house)
        # What has been told does not change with the house.
        log, trace = house.log(), house.trace()
        house.undo()
        self.assertEqual((len(log), len(trace), len(house)), (3, 3, 2))

    def test_copies_led_on_apart(self):
        house = House(BOTH)
        house.do((1, 1, 30))
        other = house.copy()
        self.assertIs(type(other), House)
        self.assertTrue(house == other)
        self.assert_same((other.program, other.given, other.log(), other.trace()), (house.program, house.given, house.log(), house.trace()))
        other.do((0, 0))
        house.do((1, 0))
        self.assertEqual((house.log(), other.log()), (((1, 1, 30), (1, 0)), ((1, 1, 30), (0, 0))))
        self.assert_same(other.trace()[-1], ("open", 3, 31))
        house.undo()
        house.undo()
        self.refused(NothingBack, {}, house.undo)
        self.assertEqual(len(other), 2)
        # A copy takes back what was done ahead of it.
        other.undo()
        other.undo()
        other.do((0, 0))
        self.assert_same(other.trace(), (("open", 3, 10),))

    def test_equal_houses(self):
        self.assertTrue(House(ECHO) == House(ECHO))
        self.assertFalse(House(ECHO) != House(ECHO))
        # What is given does not matter where the names are the same.
        self.assertTrue(House(ECHO, AS_IS) == House(ECHO, (9, 9, 9, 3, 9, 9, 9, 9, 9, 9)))
        self.assertFalse(House(ECHO, AS_IS) == House(ECHO, (9,) * 10))
        self.assertFalse(House(ECHO) == House(main(ECHO[1], ECHO[0][0], ECHO[0][0])))
        self.assertTrue(House(ECHO) != House(MINT))
        left, right = House(ECHO), House(ECHO)
        left.follow(((0, 1, 50), (0, 0)))
        # What has been done does not matter where the standing is the same.
        self.assertTrue(left == right)
        left.do((0, 1, 50))
        self.assertFalse(left == right)
        right.do((0, 1, 51))
        self.assertFalse(left == right)
        right.undo()
        right.do((0, 1, 50))
        self.assertTrue(left == right)
        for value in values_of_every_kind():
            if not isinstance(value, Odd):
                self.assertFalse(left == value)


class AsProgram(Case):

    def test_threads(self):
        for many, told in ((0, STOP), (1, wait()), (2, beside(wait(), wait())), (4, FOUR), (5, beside(FOUR, wait())), (6, beside(FOUR, beside(wait(), wait()))),
                           (8, beside(FOUR, FOUR))):
            pieces = [wait()] * many
            piece = beside(beside(*pieces[:4]), beside(*pieces[4:]))
            self.assert_same(House(main(piece)).as_program(()), main(told))
            self.assert_same(House(main(piece)).as_program(names=AS_IS), main(told))
        self.assert_same(House(main(beside(STOP, one(wait(), wait()), STOP))).as_program((4,)), main(one(wait(), wait())))

    def test_names_in_every_order(self):
        house = House(main(beside(send(3, 4), take(4, 1, send(1, 3)))))
        self.assert_same(house.as_program(AS_IS), main(beside(send(3, 4), take(4, 1, send(1, 3)))))
        # The bound 1 gives way to the 1 that 3 becomes.
        self.assert_same(house.as_program((4, 3)), main(beside(send(1, 0), take(0, 0, send(0, 1)))))
        self.assert_same(house.as_program((9, 3, 77, 4)), main(beside(send(1, 3), take(3, 0, send(0, 1)))))
        house.do((0, 0))
        self.assert_same(house.as_program((10 ** 30, 3, 4)), main(take(2, 0, send(0, 1))))

    def test_definitions_and_calls(self):
        house = House(ECHO)
        self.assert_same(house.as_program((3,)), (ECHO[0], take(0, 1, send(1, 1, call(0, 0)))))
        house.do((0, 1, 50))
        self.assert_same(house.as_program((3, 50)), (ECHO[0], send(1, 1, call(0, 0))))
        self.assert_same(house.as_program((50, 3)), (ECHO[0], send(0, 0, call(0, 1))))

    def test_own_names(self):
        program = main(new(5, new(6, beside(send(5, 6, send(3, 5)), take(5, 1, send(1, 4))))))
        house = House(program)
        # Own names get the least names that are free: 0 and 1, as 3 and 4 are 3 and 4.
        self.assertEqual(house.standing()[:2], (2, 2))
        self.assert_same(house.as_program(AS_IS), main(new(0, new(1, beside(send(0, 1, send(3, 0)), take(0, 1, send(1, 4)))))))
        self.assert_same(house.as_program((3, 4)), main(new(2, new(3, beside(send(2, 3, send(0, 2)), take(2, 0, send(0, 1)))))))
        self.assert_same(house.as_program((8, 4, 3)), main(new(0, new(3, beside(send(0, 3, send(2, 0)), take(0, 0, send(0, 1)))))))

    def test_bound_names_make_room(self):
        house = House(main(take(3, 1, send(1, 3, send(4, 4)))))
        # 3 becomes 1, so that the bound 1 must become another name: the least one that is no image.
        self.assert_same(house.as_program((4, 3)), main(take(1, 2, send(2, 1, send(0, 0)))))
        self.assert_same(house.as_program((9, 8, 4, 3)), main(take(3, 1, send(1, 3, send(2, 2)))))

    def test_no_name_is_left(self):
        nine = send(0, 1, send(2, 3, send(4, 6, send(7, 8, send(9, 9)))))
        house = House(main(new(5, send(5, 5, nine))))
        self.assertEqual(house.standing()[:2], (9, 1))
        self.assert_same(house.as_program(AS_IS), main(new(5, send(5, 5, nine))))
        eleven = House(main(new(5, beside(send(5, 5, nine), new(0, send(5, 0))))))
        self.assertEqual(eleven.standing()[:2], (9, 2))
        self.refused(TooGreat, {"most": 10}, eleven.as_program, AS_IS)

    def test_results_that_are_too_great(self):
        # The thread of a definition stands in MAIN, too: more parts than there were.
        body = ((), one(*[wait(call(0))] * 17))
        house = House(main(beside(call(0), call(0)), body))
        self.refused(TooGreat, {"most": 80}, house.as_program, ())
        deep = House(main(beside(waits(10), wait(), wait(), wait()), ((0,), STOP)))
        self.assert_same(deep.as_program(()), main(beside(waits(10), wait(), wait(), wait()), ((0,), STOP)))
        # Five threads stand one deeper than four.
        four = House(main(beside(call(0), call(0), call(0), call(0)), ((), waits(10, call(0)))))
        self.assert_same(four.as_program(()), main(beside(*[waits(10, call(0))] * 4), ((), waits(10, call(0)))))
        five = House(main(beside(call(0), beside(call(0), call(0), call(0), call(0))), ((), waits(10, call(0)))))
        self.refused(TooGreat, {"most": 12}, five.as_program, ())

    def test_wrong_names(self):
        house = House(main(send(3, 4)))
        for value in values_of_every_kind() + [(3,), (4,), (3, 4, 3), (3, 4, 4), [3, 4], (3, 4, -1), (3, 4, True), (3, 4, None), (3, 4, 5.0), (3, 4) + tuple(range(20, 29)),
                                               (3, False, 4), (1, True, 3, 4), (3, 4, Odd())]:
            self.refused(BadParameter, {"value": value}, house.as_program, value)
        self.refused(BadParameter, {"value": ()}, house.as_program, ())
        self.assert_same(house.as_program((3, 4) + tuple(range(20, 28))), main(send(0, 1)))
        crowded = House(main(new(5, beside(send(5, 5, send(0, 1, send(2, 3, send(4, 6, send(7, 8, send(9, 9)))))), new(0, send(5, 0))))))
        self.refused(BadParameter, {"value": (1,)}, crowded.as_program, (1,))

    def test_a_house_without_deeds(self):
        counted = 0
        for program in random_programs(601, 30, 4) + [each for pair in near_programs(602, 20) for each in pair] + circling_programs(603, 10):
            for given in (AS_IS, JOINED):
                if oracle.outcome(oracle.graph, program, given)[0] == "too great":
                    continue
                try:
                    told = House(program, given).as_program(AS_IS)
                    other = renamed(program, given)
                    found = [alike(told, other, "early"), alike(told, other, "late"), alike_weak(told, other), alike_rooted(told, other)]
                except TooGreat:
                    continue
                self.assertEqual(found, [True] * 4)
                counted += 1
        self.assertGreater(counted, 80)

    def test_houses_of_what_is_told(self):
        chance = random.Random(60)
        counted = 0
        for program in random_programs(604, 60) + circling_programs(605, 20) + [ECHO, MINT, BOTH, KEEPER] * 3:
            if oracle.outcome(oracle.first, program, AS_IS)[0] == "too great":
                continue
            house = House(program)
            for _ in range(5):
                try:
                    house.do(drawn_deed(chance, house))
                except (NoMove, TooGreat):
                    pass
            names = list(house.names()) + [name for name in range(40, 60)]
            names = names[:max(len(house.names()), chance.randrange(11))]
            chance.shuffle(names)
            try:
                told = House(house.as_program(tuple(names)))
                offers = house.offers()
            except TooGreat:
                continue
            self.assertEqual(sorted((word, names[name]) for word, name in told.offers()), sorted(offers))
            self.assertEqual({action[0] for action, _ in told.moves()}, {action[0] for action, _ in house.moves()})
            counted += 1
        self.assertGreater(counted, 50)
