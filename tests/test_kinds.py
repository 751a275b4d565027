"""Points 54 and 55: sources, tellings, uses and rights."""

import random

from passednames.errors import BadGiven, BadKinds, BadPiece, BadProgram, TooGreat
from passednames.kinds import is_closed_telling, least_telling, need_rights, over_rights, uses_of
from passednames.names import AS_IS
from tests import samples
from tests.samples import (Case, HOLE, STOP, Odd, beside, call, circling_programs, main, near_programs, new, one, random_programs, send, take,
                           unlike, values_of_every_kind, wait)
from tests.sourced import WORLD, SourcedRun, Told, in_sets, told

JOINED = (0, 0, 2, 3, 3, 5, 6, 7, 8, 9)
EXAMPLE = main(new(1, beside(send(1, 0), take(1, 2, send(2, 2)))))
# Two definitions that call each other, one that nothing calls but itself.
CALLING = main(new(5, call(0, 5, 3)), ((0, 1), take(1, 2, call(1, 0, 2))), ((0, 1), send(0, 1, call(0, 1, 0))), ((0,), take(0, 1, call(2, 1))))


def some_programs():
    """Programs of all kinds, with what is given."""
    pairs = near_programs(541, 40)
    programs = [program for pair in pairs for program in pair] + random_programs(542, 60) + circling_programs(543, 30) + [EXAMPLE, CALLING]
    return [(program, given) for program in programs for given in (AS_IS, JOINED)]


class Tellings(Case):

    def least(self, program, holds, carries, known, given=AS_IS):
        telling = (holds, carries, known)
        self.assert_same(least_telling(program, given), telling)
        self.assert_same(least_telling(program=program, given=given), telling)
        self.assertIs(is_closed_telling(program, telling, given), True)
        self.assertIs(is_closed_telling(program=program, value=telling, given=given), True)

    def test_small_programs(self):
        zero, one_name = ("given", 0), ("given", 1)
        self.least(main(STOP), (), ((WORLD, (WORLD,)),), (WORLD,))
        self.least(main(send(0, 1)), (), ((zero, (zero, one_name, WORLD)), (one_name, (zero, one_name, WORLD)), (WORLD, (zero, one_name, WORLD))),
                   (zero, one_name, WORLD))
        self.least(main(send(0, 1)), (), ((one_name, (one_name, WORLD)), (WORLD, (one_name, WORLD))), (one_name, WORLD), given=(1,) * 10)
        self.least(main(take(0, 1)), ((("take", (1,)), (zero, WORLD)),), ((zero, (zero, WORLD)), (WORLD, (zero, WORLD))), (zero, WORLD))
        made = ("new", (1,))
        self.least(main(new(5, send(0, 5))), (), ((zero, (zero, made, WORLD)), (made, (zero, made, WORLD)), (WORLD, (zero, made, WORLD))), (zero, made, WORLD))
        self.least(main(new(5, send(5, 0))), (), ((zero, (zero, WORLD)), (made, (zero,)), (WORLD, (zero, WORLD))), (zero, WORLD))
        self.least(main(new(5, take(5, 0))), ((("take", (1, 2)), ()),), ((made, ()), (WORLD, (WORLD,))), (WORLD,))

    def test_the_example_of_point_56(self):
        zero, made = ("given", 0), ("new", (1,))
        self.least(EXAMPLE, ((("take", (1, 2, 1, 1)), (zero,)),), ((zero, (zero, WORLD)), (made, (zero,)), (WORLD, (zero, WORLD))), (zero, WORLD))

    def test_definitions(self):
        three, made = ("given", 3), ("new", (1,))
        every = (three, made, WORLD)
        # The new is put in for three params, but sent on nothing: it stays within.
        outside = (three, WORLD)
        self.least(CALLING, ((("param", 0, 0), every), (("param", 0, 1), every), (("param", 1, 0), every), (("param", 1, 1), outside),
                             (("take", (0, 0, 1)), outside)), ((three, outside), (made, outside), (WORLD, outside)), outside)
        # What nothing reaches does not count: its news and takes are no sources and no holders.
        lonely = main(STOP, ((0,), take(0, 1, call(1, 1))), ((0,), new(2, send(0, 2, call(0, 2)))))
        self.least(lonely, (), ((WORLD, (WORLD,)),), (WORLD,))
        used = (lonely[0], call(0, 0))
        holders = [holder for holder, _ in least_telling(used)[0]]
        self.assertEqual(holders, [("param", 0, 0), ("param", 1, 0), ("take", (0, 0, 1))])
        self.assertEqual([source for source, _ in least_telling(used)[1]], [("given", 0), ("new", (0, 1, 1)), WORLD])
        # Params of one definition are told apart.
        two = main(new(5, call(0, 5, 0)), ((0, 1), wait(send(0, 1))))
        self.assertEqual(least_telling(two)[0], ((("param", 0, 0), (("new", (1,)),)), (("param", 0, 1), (("given", 0),))))

    def test_innermost_binders(self):
        program = main(new(5, beside(take(5, 5, send(5, 0)), send(5, 1), new(5, send(5, 2)))))
        # The inner send goes on what the take takes, which is 1; the last one on the inner new.
        outer, inner = ("new", (1,)), ("new", (1, 2, 1, 2))
        carries = dict(least_telling(program)[1])
        self.assertEqual(carries[outer], (("given", 1),))
        self.assertEqual(carries[inner], (("given", 2),))
        self.assertIn(("given", 0), carries[("given", 1)])
        self.assertEqual(dict(least_telling(program)[0]), {("take", (1, 2, 1, 0)): (("given", 1),)})

    def test_with_a_second_telling(self):
        for program, given in some_programs():
            other = Told(program, given)
            self.assert_same(least_telling(program, given), told(*other.least()))

    def test_bent_tellings(self):
        chance = random.Random(54)
        counted = {True: 0, False: 0}
        for program, given in some_programs():
            other = Told(program, given)
            holds, carries, known = other.least()
            for _ in range(6):
                self.bend(chance, other, holds, carries, known)
                value = told(holds, carries, known)
                good = other.closed(holds, carries, known)
                self.assertIs(is_closed_telling(program, value, given), good, (program, value))
                counted[good] += 1
                if good:
                    # The least one is within each other one.
                    least = in_sets(least_telling(program, given))
                    self.assertTrue(all(least[0][holder] <= holds[holder] for holder in holds))
                    self.assertTrue(all(least[1][source] <= carries[source] for source in carries))
                    self.assertLessEqual(least[2], known)
        self.assertGreater(min(counted.values()), 100, counted)

    def bend(self, chance, other, holds, carries, known):
        """Puts a source in, or leaves one out, somewhere; or makes all as great as can be."""
        if chance.randrange(5) == 0:
            for sources in [*holds.values(), *carries.values(), known]:
                sources |= other.sources
            return
        sources = chance.choice([*holds.values(), *carries.values(), known])
        if chance.randrange(2) and sources:
            sources.discard(chance.choice(sorted(sources)))
        else:
            sources.add(chance.choice(sorted(other.sources)))

    def test_forms_of_tellings(self):
        telling = least_telling(EXAMPLE)
        holds, carries, known = telling
        (holder, held), = holds
        bent = [telling + ((),), telling[:2], list(telling), (list(holds), carries, known), (holds, list(carries), known), (holds, carries, list(known)),
                ((), carries, known), (holds + holds, carries, known), (holds, carries[:2], known), (holds, carries[::-1], known), (holds, carries, known[::-1]),
                (holds, carries, known + known[-1:]), (holds, carries, known[:1]), (holds, carries, known[1:]), (holds, carries, ()),
                (((holder, held, ()),), carries, known), (((holder,),), carries, known), (([holder, held],), carries, known), (((holder, list(held)),), carries, known),
                (((list(holder), held),), carries, known), (((("take", [1, 2, 1, 1]), held),), carries, known), (((("take", (1, 2, 1, 0)), held),), carries, known),
                (((("take", (True, 2, 1, 1)), held),), carries, known), (((("take", (1, 2, 1, True)), held),), carries, known), (((("Take", holder[1]), held),), carries, known),
                (((holder, ()),), carries, known), (((holder, (("given", 1),)),), carries, known), (((holder, (("given", False),)),), carries, known),
                (((holder, (["given", 0],)),), carries, known), (((holder, (("given", 0), ("given", 0))),), carries, known), (((holder, (("given", 0.0),)),), carries, known),
                (((holder, (WORLD, ("given", 0))),), carries, known), (((holder, (("new", (True,)),)),), carries, known), (((holder, (("new", [1]),)),), carries, known),
                (((holder, (("world", 0), )),), carries, known), (((holder, (("word",),)),), carries, known), (((holder, (None,)),), carries, known),
                (((holder, (Odd(),)),), carries, known), (((Odd(), held),), carries, known), ((Odd(),), carries, known), (holds, (Odd(),) * 3, known),
                (holds, carries, (("given", False), WORLD)), (holds, carries, (Odd(),)), (holds, carries, Odd()),
                (holds, ((("given", False), carries[0][1]),) + carries[1:], known), (holds, carries[:1] + ((("new", (True,)), carries[1][1]),) + carries[2:], known),
                (holds, carries + ((("given", 1), ()),), known), (holds, ((carries[0][0], carries[0][1], 0),) + carries[1:], known)]
        for value in bent + values_of_every_kind():
            self.assertIs(is_closed_telling(EXAMPLE, value), False, value)
        # What is more than the least one can be closed, too.
        new_too = ("given", 0), ("new", (1,)), WORLD
        self.assertIs(is_closed_telling(EXAMPLE, (((holder, new_too),), tuple((source, new_too) for source, _ in carries), new_too)), True)
        self.assertIs(is_closed_telling(EXAMPLE, (((holder, new_too),), tuple((source, new_too) for source, _ in carries), known)), False)
        params = least_telling(CALLING)
        for wrong in (("param", False, 0), ("param", 0, False), ("param", 0), ["param", 0, 0], ("param", 0, 0, 0), ("param", 0.0, 0), ("param", 0, 1)):
            self.assertIs(is_closed_telling(CALLING, (((wrong, params[0][0][1]),) + params[0][1:],) + params[1:]), False)

    def test_names_in_drawn_runs(self):
        chance = random.Random(55)
        counted = {"put in": 0, "sent": 0, "known": 0}
        for program, given in some_programs():
            holds, carries, known = in_sets(least_telling(program, given))

            def watcher(what, where, source):
                counted[what] += 1
                self.assertIn(source, {"put in": holds, "sent": carries}[what][where] if where else known, (program, given, what, where))

            for _ in range(4):
                run = SourcedRun(program, given, watcher)
                for _ in range(12):
                    if len(run.threads) > 12 or not run.step(chance):
                        break
        self.assertGreater(min(counted.values()), 200, counted)

    def test_errors(self):
        more = {least_telling: (), is_closed_telling: (None,), uses_of: (), need_rights: (None,), over_rights: (None,)}
        for asked, args in more.items():
            self.refused(BadPiece, {"path": (1,)}, asked, main(HOLE), *args, None)
            self.refused(BadProgram, {"place": ()}, asked, None, *args, None)
            for value in values_of_every_kind():
                self.refused(BadGiven, {"value": value}, asked, EXAMPLE, *args, value)
                with self.assertRaises((BadProgram, BadPiece, TooGreat)):
                    asked(value, *args)


class Uses(Case):

    def test_uses(self):
        zero, made = ("given", 0), ("new", (1,))
        self.assert_same(uses_of(EXAMPLE), ((zero, ((1, 2, 1, 1, 3),), ()), (made, ((1, 2, 1, 0),), ((1, 2, 1, 1),)), (WORLD, (), ())))
        self.assert_same(uses_of(program=EXAMPLE, given=AS_IS), uses_of(EXAMPLE))
        self.assert_same(uses_of(main(STOP)), ((WORLD, (), ()),))
        program = main(one(send(0, 1), take(0, 2, send(2, 2)), samples.alike(0, 1, take(1, 0))))
        every = (((1, 1, 0), (1, 1, 1, 3)), ((1, 1, 1),))
        self.assertEqual(uses_of(program), ((zero, *every), (("given", 1), ((1, 1, 1, 3),), ((1, 1, 2, 3),)), (WORLD, ((1, 1, 1, 3),), ())))

    def test_with_a_second_telling(self):
        for program, given in some_programs():
            other = Told(program, given)
            holds, _, _ = other.least()

            def paths(steps, source):
                return tuple(sorted(path for path, channel, _ in steps if source in holds.get(channel, {channel})))

            self.assert_same(uses_of(program, given), tuple((source, paths(other.sends, source), paths(other.takes, source)) for source in sorted(other.sources)))

    def test_rights(self):
        zero, made = ("given", 0), ("new", (1,))
        good = [(), ((zero, "both"),), ((made, "none"),), ((zero, "send"), (made, "take")), ((zero, "take"), (WORLD, "none")), ((zero, "both"), (made, "both"), (WORLD, "both"))]
        for rights in good:
            self.assertIs(need_rights(EXAMPLE, rights), rights)
            self.assertIs(need_rights(program=EXAMPLE, value=rights, given=AS_IS), rights)
        for value in values_of_every_kind() + [list(good[3])]:
            if not isinstance(value, tuple):
                self.refused(BadKinds, {"place": ()}, need_rights, EXAMPLE, value)
                self.refused(BadKinds, {"place": ()}, over_rights, EXAMPLE, value)
        wrong = values_of_every_kind() + [(zero,), (zero, "both", 0), [zero, "both"], (zero, "Both"), (zero, None), (zero, b"send"), (list(zero), "both"), (("given", 1), "both"),
                                          (("given", False), "both"), (("new", (1, 2)), "both"), (("new", (True,)), "both"), (("take", (1, 2, 1, 1)), "both"),
                                          (("world", 0), "both"), ((), "both"), ("world", "both"), (Odd(), "both"), (zero, Odd()), (zero, ("both",)), (("new", [1]), "both")]
        for value in wrong:
            for asked in (need_rights, over_rights):
                self.refused(BadKinds, {"place": (0,)}, asked, EXAMPLE, (value,))
                self.refused(BadKinds, {"place": (1,)}, asked, EXAMPLE, ((zero, "send"), value, None))
        for value, place in ((((made, "both"), (zero, "both")), 1), (((zero, "both"), (zero, "send")), 1), (((zero, "both"), (WORLD, "both"), (made, "both")), 2),
                             (((zero, "send"), (zero, "send")), 1)):
            self.refused(BadKinds, {"place": (place,)}, need_rights, EXAMPLE, value)
            self.refused(BadKinds, {"place": (place,)}, over_rights, EXAMPLE, value)
        # The sources are those of what is given.
        self.refused(BadKinds, {"place": (0,)}, need_rights, EXAMPLE, ((zero, "both"),), (3,) * 10)
        self.assertEqual(need_rights(EXAMPLE, ((("given", 3), "both"),), (3,) * 10), ((("given", 3), "both"),))
        self.refused(BadGiven, {"value": None}, need_rights, EXAMPLE, None, None)
        self.refused(BadGiven, {"value": None}, over_rights, EXAMPLE, None, None)

    def test_over_rights(self):
        zero, made = ("given", 0), ("new", (1,))
        for rights, told_over in (
                ((), ()), (((made, "both"),), ()), (((made, "send"),), (((1, 2, 1, 1), made),)), (((made, "take"),), (((1, 2, 1, 0), made),)),
                (((made, "none"),), (((1, 2, 1, 0), made), ((1, 2, 1, 1), made))), (((zero, "take"),), (((1, 2, 1, 1, 3), zero),)), (((zero, "send"),), ()),
                (((zero, "none"), (made, "none"), (WORLD, "none")), (((1, 2, 1, 0), made), ((1, 2, 1, 1), made), ((1, 2, 1, 1, 3), zero)))):
            self.assert_same(over_rights(EXAMPLE, rights), told_over)
            self.assert_same(over_rights(program=EXAMPLE, rights=rights, given=AS_IS), told_over)

    def test_over_rights_of_many(self):
        chance = random.Random(56)
        for program, given in some_programs():
            uses = uses_of(program, given)
            rights = tuple((source, chance.choice(("both", "none", "send", "take"))) for source, _, _ in uses if chance.randrange(3))
            wanted = []
            for source, sends, takes in uses:
                right = dict(rights).get(source, "both")
                wanted += [(path, source) for path in sends if right in ("none", "take")] + [(path, source) for path in takes if right in ("none", "send")]
            self.assert_same(over_rights(program, rights, given), tuple(sorted(wanted)))
