"""Point 12: renamed and same_but_bound, the example and the facts."""

import random

from passednames.errors import BadGiven, BadPiece, BadProgram
from passednames.names import AS_IS
from passednames.programs import free_names, need_program, parts_of, renamed, same_but_bound
from tests.samples import (Case, STOP, alike, beside, call, main, new, one, random_programs, send, take, unlike,
                           values_of_every_kind, wait)


def row(**changes):
    """AS_IS with items changed: row(n3=4) gives 4 for 3."""
    items = list(AS_IS)
    for name, value in changes.items():
        items[int(name[1:])] = value
    return tuple(items)


class Renamed(Case):

    def test_the_example(self):
        self.assert_same(
            renamed(((), ("take", 0, 1, ("send", 1, 2, ("one", ())))), (3, 4, 1, 0, 0, 0, 0, 0, 0, 0)),
            ((), ("take", 3, 0, ("send", 0, 1, ("one", ())))))

    def test_each_word(self):
        given = (5, 6, 7, 8, 9, 0, 1, 2, 3, 4)
        for piece, wanted in (
            (STOP, STOP), (beside(), beside()), (send(0, 1), send(5, 6)), (wait(send(2, 2)), wait(send(7, 7))),
            (take(0, 1, send(1, 1)), take(5, 1, send(1, 1))), (alike(3, 4, wait()), alike(8, 9, wait())),
            (unlike(9, 5, send(6, 7)), unlike(4, 0, send(1, 2))), (one(send(0, 1), wait()), one(send(5, 6), wait())),
            (beside(send(0, 1), STOP, send(1, 0)), beside(send(5, 6), STOP, send(6, 5))),
            (new(3, send(3, 3)), new(3, send(3, 3))), (new(3, send(3, 8)), new(0, send(0, 3))),
            (take(0, 0, send(0, 0)), take(5, 0, send(0, 0))), (take(0, 0, send(0, 5)), take(5, 1, send(1, 0))),
        ):
            self.assert_same(renamed(main(piece), given), main(wanted))

    def test_all_at_once(self):
        self.assert_same(renamed(main(beside(send(0, 1), send(1, 0))), row(n0=1, n1=0)),
                         main(beside(send(1, 0), send(0, 1))))
        self.assert_same(renamed(main(send(0, 1, send(1, 2))), row(n0=1, n1=2, n2=3)), main(send(1, 2, send(2, 3))))

    def test_names_can_be_joined(self):
        self.assert_same(renamed(main(alike(0, 1, send(2, 3))), (4,) * 10), main(alike(4, 4, send(4, 4))))

    def test_calls_of_main(self):
        definition = ((0, 1), take(0, 2, wait(call(0, 1, 2))))
        self.assert_same(renamed(main(call(0, 0, 1), definition), row(n0=7, n1=7)), main(call(0, 7, 7), definition))
        self.assert_same(renamed(main(new(2, call(0, 0, 2)), definition), row(n0=2)),
                         main(new(0, call(0, 2, 0)), definition))

    def test_definitions_stay(self):
        definition = ((3,), send(3, 3, new(4, wait(call(0, 4)))))
        self.assert_same(renamed(main(send(3, 4), definition), row(n3=5, n4=6)), main(send(5, 6), definition))

    def test_a_bound_name_stays_where_it_can(self):
        for piece in (take(0, 1), take(0, 1, send(1, 2)), new(1, send(1, 2)), new(1, STOP)):
            self.assert_same(renamed(main(piece), row(n2=3)), main(with_three(piece)))

    def test_only_names_free_below_count(self):
        # 1 comes up only beside the binder, or as its channel, so the bound 1 stays.
        self.assert_same(renamed(main(take(0, 1, send(1, 1))), row(n0=1)), main(take(1, 1, send(1, 1))))
        self.assert_same(renamed(main(beside(send(0, 0), new(1, send(1, 1)))), row(n0=1)),
                         main(beside(send(1, 1), new(1, send(1, 1)))))
        # What X itself becomes elsewhere does not count.
        self.assert_same(renamed(main(beside(send(1, 1), new(1, send(1, 2)))), row(n1=2)),
                         main(beside(send(2, 2), new(1, send(1, 2)))))

    def test_the_least_name_that_is_no_image(self):
        self.assert_same(renamed(main(new(5, send(5, 6, send(7, 8)))), row(n6=5, n7=0, n8=1)),
                         main(new(2, send(2, 5, send(0, 1)))))
        self.assert_same(renamed(main(take(9, 5, send(5, 6))), row(n6=5)), main(take(9, 0, send(0, 5))))
        # The bound name itself may be less than its images, and is still left only where it must be.
        self.assert_same(renamed(main(new(5, send(5, 6))), row(n6=0)), main(new(5, send(5, 0))))

    def test_nine_images(self):
        piece = new(0, send(0, 1, send(2, 3, send(4, 5, send(6, 7, send(8, 9))))))
        given = (9, 0, 1, 2, 3, 4, 5, 6, 7, 8)
        self.assert_same(renamed(main(piece), given),
                         main(new(9, send(9, 0, send(1, 2, send(3, 4, send(5, 6, send(7, 8))))))))

    def test_what_outer_ones_become_counts(self):
        # The outer 1 becomes 0, which is an image at the inner 0, that becomes 1 then.
        self.assert_same(renamed(main(new(1, new(0, send(1, 0, send(2, 2))))), row(n2=1)),
                         main(new(0, new(2, send(0, 2, send(1, 1))))))
        self.assert_same(renamed(main(take(3, 1, take(1, 2, send(2, 4)))), row(n4=1)),
                         main(take(3, 0, take(0, 2, send(2, 1)))))

    def test_an_inner_one_of_the_same_name(self):
        self.assert_same(renamed(main(new(1, beside(send(1, 2), new(1, send(1, 1))))), row(n2=1)),
                         main(new(0, beside(send(0, 1), new(1, send(1, 1))))))
        self.assert_same(renamed(main(take(1, 1, take(1, 1, send(1, 2)))), row(n1=3, n2=1)),
                         main(take(3, 0, take(0, 0, send(0, 1)))))

    def test_by_name(self):
        self.assert_same(renamed(program=main(send(0, 1)), given=row(n0=2)), main(send(2, 1)))

    def test_wrong_rows(self):
        for value in values_of_every_kind() + [AS_IS[:9], AS_IS + (0,), list(AS_IS), (True,) + AS_IS[1:], (10,) * 10]:
            self.refused(BadGiven, {"value": value}, renamed, main(STOP), value)
            self.refused(BadPiece, {"path": (1,)}, renamed, main(None), value)

    def test_as_is_changes_nothing(self):
        for program in random_programs(4, 60):
            self.assert_same(renamed(program, AS_IS), program)

    def test_twice_is_once(self):
        chance = random.Random(5)
        for program in random_programs(6, 60):
            first = tuple(chance.randrange(6) for _ in range(10))
            second = tuple(chance.randrange(6) for _ in range(10))
            twice = renamed(renamed(program, first), second)
            once = renamed(program, tuple(second[item] for item in first))
            self.assertIs(same_but_bound(twice, once), True)

    def test_free_names_are_the_images(self):
        chance = random.Random(7)
        for program in random_programs(8, 60):
            given = tuple(chance.randrange(10) for _ in range(10))
            there = renamed(program, given)
            self.assertEqual(need_program(there), there)
            self.assertEqual(free_names(there), tuple(sorted({given[name] for name in free_names(program)})))
            self.assertEqual([path for path, _ in parts_of(there)], [path for path, _ in parts_of(program)])
            self.assertEqual(there[0], program[0])

    def test_one_to_one_and_back(self):
        chance = random.Random(9)
        for program in random_programs(10, 40):
            given = list(AS_IS)
            chance.shuffle(given)
            back = tuple(given.index(name) for name in AS_IS)
            self.assertIs(same_but_bound(renamed(renamed(program, tuple(given)), back), program), True)


def with_three(piece):
    """The piece with 3 for each 2."""
    if isinstance(piece, tuple):
        return tuple(with_three(item) for item in piece)
    return 3 if piece == 2 else piece


class SameButBound(Case):

    def same(self, one_piece, other, wanted):
        self.assertIs(same_but_bound(main(one_piece), main(other)), wanted)
        self.assertIs(same_but_bound(main(other), main(one_piece)), wanted)

    def test_bound_names(self):
        self.same(take(0, 1, send(1, 2)), take(0, 3, send(3, 2)), True)
        self.same(take(0, 1, send(1, 2)), take(0, 0, send(0, 2)), True)
        self.same(take(0, 1), take(0, 9), True)
        self.same(new(1, send(1, 1)), new(2, send(2, 2)), True)
        self.same(new(1, STOP), new(2, STOP), True)
        self.same(new(0, new(1, send(0, 1))), new(1, new(0, send(1, 0))), True)
        self.same(new(0, new(1, take(0, 2, send(2, 1)))), new(5, new(4, take(5, 5, send(5, 4)))), True)

    def test_free_names_are_told_apart(self):
        self.same(send(0, 1), send(0, 2), False)
        self.same(take(0, 1, send(1, 2)), take(0, 2, send(2, 2)), False)
        self.same(take(0, 1, send(1, 2)), take(0, 2, send(2, 1)), False)
        self.same(take(0, 1, send(3, 1)), take(1, 1, send(3, 1)), False)
        self.same(new(1, send(0, 1)), new(0, send(0, 1)), False)
        self.same(new(1, send(1, 1)), send(1, 1), False)

    def test_which_binder_binds(self):
        self.same(new(0, new(1, send(0, 1))), new(0, new(1, send(1, 0))), False)
        self.same(new(0, new(0, send(0, 0))), new(0, new(1, send(1, 1))), True)
        self.same(new(0, new(0, send(0, 0))), new(0, new(1, send(0, 0))), False)
        self.same(new(0, new(0, send(0, 0))), new(0, new(1, send(0, 1))), False)
        self.same(take(0, 0, take(0, 0, send(0, 0))), take(0, 1, take(1, 2, send(2, 2))), True)
        self.same(take(0, 0, take(0, 0, send(0, 0))), take(0, 1, take(0, 2, send(2, 2))), False)
        self.same(take(0, 1, take(1, 1, take(1, 2, send(1, 2)))), take(0, 3, take(3, 4, take(4, 5, send(4, 5)))), True)
        self.same(take(0, 1, take(1, 1, take(1, 2, send(1, 2)))), take(0, 3, take(3, 4, take(4, 5, send(3, 5)))), False)

    def test_a_binder_ends_with_its_part(self):
        self.same(beside(new(1, send(1, 1)), send(1, 1)), beside(new(2, send(2, 2)), send(1, 1)), True)
        self.same(beside(new(1, send(1, 1)), send(1, 1)), beside(new(2, send(2, 2)), send(2, 2)), False)

    def test_the_rest_is_asked_to_the_letter(self):
        self.same(alike(0, 1, wait()), alike(1, 0, wait()), False)
        self.same(alike(0, 1, wait()), unlike(0, 1, wait()), False)
        self.same(one(wait(), send(0, 1)), one(send(0, 1), wait()), False)
        self.same(one(), beside(), False)
        self.same(beside(STOP), STOP, False)
        self.same(wait(), wait(wait()), False)
        self.same(beside(wait(), STOP), beside(STOP, wait()), False)

    def test_params(self):
        def same(left, right, wanted):
            self.assertIs(same_but_bound((left, STOP), (right, STOP)), wanted)
            self.assertIs(same_but_bound((right, STOP), (left, STOP)), wanted)
        same((((0, 1), send(0, 1)),), (((1, 0), send(1, 0)),), True)
        same((((0, 1), send(0, 1)),), (((5, 7), send(5, 7)),), True)
        same((((0, 1), send(0, 1)),), (((0, 1), send(1, 0)),), False)
        same((((0, 1), send(0, 1)),), (((1, 0), send(0, 1)),), False)
        same((((0, 1), send(0, 0)),), (((2, 3), send(3, 3)),), False)
        same((((0, 1), STOP),), (((2,), STOP),), False)
        same((((0,), STOP),), (((), STOP),), False)
        same((((0,), STOP),), (((3,), STOP),), True)
        same((((0,), take(0, 0, send(0, 0))),), (((3,), take(3, 4, send(4, 4))),), True)
        same((((0,), take(0, 0, send(0, 0))),), (((3,), take(3, 4, send(3, 4))),), False)
        same((((0,), take(0, 1, wait(call(0, 1)))),), (((1,), take(1, 0, wait(call(0, 0)))),), True)
        same((((0,), take(0, 1, wait(call(0, 1)))),), (((1,), take(1, 0, wait(call(0, 1)))),), False)

    def test_params_are_of_their_own_body(self):
        left = main(send(0, 1), ((0, 1), send(0, 1)))
        self.assertIs(same_but_bound(left, main(send(0, 1), ((2, 3), send(2, 3)))), True)
        self.assertIs(same_but_bound(left, main(send(2, 3), ((2, 3), send(2, 3)))), False)

    def test_definitions(self):
        first, second = ((), wait()), ((), STOP)
        self.assertIs(same_but_bound(main(STOP, first), main(STOP)), False)
        self.assertIs(same_but_bound(main(STOP), main(STOP, second)), False)
        self.assertIs(same_but_bound(main(STOP, first, second), main(STOP, second, first)), False)
        self.assertIs(same_but_bound(main(call(0), first, first), main(call(1), first, first)), False)
        self.assertIs(same_but_bound(main(call(0), first), main(call(0), first)), True)

    def test_calls(self):
        definition = ((0, 1), STOP)
        self.assertIs(same_but_bound(main(new(0, call(0, 0, 1)), definition), main(new(2, call(0, 2, 1)), definition)), True)
        self.assertIs(same_but_bound(main(new(0, call(0, 0, 1)), definition), main(new(2, call(0, 1, 2)), definition)), False)
        self.assertIs(same_but_bound(main(call(0, 0, 1), definition), main(call(0, 0, 2), definition)), False)

    def test_both_are_checked_in_order(self):
        for value in values_of_every_kind():
            if isinstance(value, tuple) and len(value) == 2:
                continue
            self.refused(BadProgram, {"place": ()}, same_but_bound, value, main(None))
            self.refused(BadProgram, {"place": ()}, same_but_bound, main(STOP), value)
        self.refused(BadPiece, {"path": (1,)}, same_but_bound, main(None), main(wait(None)))
        self.refused(BadPiece, {"path": (1, 1)}, same_but_bound, main(STOP), main(wait(None)))
        self.refused(BadPiece, {"path": (1,)}, same_but_bound, one=main(None), other=3)

    def test_each_is_the_same_as_itself(self):
        programs = random_programs(11, 25)
        for program in programs:
            self.assertIs(same_but_bound(program, program), True)
        for program in programs:
            for other in programs:
                self.assertIs(same_but_bound(program, other), plain_same(program, other))


def plain_same(left, right):
    """The same, asked in another way: by pairs of names that are bound together."""
    if len(left[0]) != len(right[0]):
        return False
    for (params, body), (others, other) in zip(left[0], right[0]):
        if len(params) != len(others) or not plain_same_piece(body, other, list(zip(params, others))):
            return False
    return plain_same_piece(left[1], right[1], [])


def plain_same_name(left, right, pairs):
    for first, second in reversed(pairs):
        if first == left or second == right:
            return (first, second) == (left, right)
    return left == right


def plain_same_piece(left, right, pairs):
    if left[0] != right[0] or len(left) != len(right):
        return False
    word = left[0]
    if word in ("one", "beside"):
        return len(left[1]) == len(right[1]) and all(
            plain_same_piece(first, second, pairs) for first, second in zip(left[1], right[1]))
    if word == "call":
        return left[1] == right[1] and all(
            plain_same_name(first, second, pairs) for first, second in zip(left[2], right[2]))
    names = {"send": 2, "alike": 2, "unlike": 2, "take": 1, "wait": 0, "new": 0}[word]
    if not all(plain_same_name(left[place], right[place], pairs) for place in range(1, names + 1)):
        return False
    if word in ("take", "new"):
        pairs = pairs + [(left[-2], right[-2])]
    return plain_same_piece(left[-1], right[-1], pairs)
