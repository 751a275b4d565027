"""Across parts: what is told of two programs in one way goes with what is told of them in another one."""

import random

from passednames.conditions import all_joinings
from passednames.contexts import surrounded
from passednames.errors import BadStep, NoMove, NotFinite, NotOpen, TooGreat, Unlike
from passednames.formed import form_of, joined_forms
from passednames.house import House
from passednames.joinings import alike_at, alike_joined, both_names, given_joined, is_joined_paper, joined_paper, joining_surrounding
from passednames.leading import led_all, unfolding
from passednames.likeness import alike, alike_paper, is_alike_paper, rounds_apart
from passednames.names import AS_IS
from passednames.once import lone_waits
from passednames.openly import open_alike
from passednames.openpapers import is_open_paper, open_attack, open_paper
from passednames.parting import parting, parts
from passednames.programs import is_finite, renamed
from passednames.quiet import are_marks, greatest_marks, is_rooted_paper, is_weak_paper
from passednames.sentences import depth_of
from passednames.sheet import Sheet
from passednames.silent import alike_rooted, alike_weak, rooted_paper, weak_paper
from passednames.texts import program_text, read_program
from tests.samples import (Case, STOP, beside, circling_programs, count_parts, main, near_programs, one, random_piece, send, take, take_families,
                           unlike, wait)
from tests.test_silent import is_small

FOUR = ("early", "late", "weak", "rooted")


def are_alike(first, second, likeness, given=AS_IS):
    """Whether two programs are alike by one of the four likenesses."""
    if likeness in ("early", "late"):
        return alike(first, second, likeness, given)
    return {"weak": alike_weak, "rooted": alike_rooted}[likeness](first, second, given)


def led_pairs(seed, many):
    """Pairs of a program and what it unfolds to, or what one rule or another makes of it."""
    chance = random.Random(seed)
    pairs = []
    while len(pairs) < many:
        program = main(random_piece(chance, 4, 0))
        try:
            pairs.append((program, led_all(program, unfolding(program))))
        except (TooGreat, BadStep, NotFinite):
            continue
    return pairs


def some_pairs():
    """Pairs of small programs over few names, alike ones among them."""
    pairs = near_programs(71, 40, 3) + take_families(72, 16) + led_pairs(73, 30) + list(zip(circling_programs(74, 12), circling_programs(75, 12)))
    found = []
    for first, second in pairs:
        names = both_names(first, second)
        if len(names) > 3 or max(names, default=0) > 3 or count_parts(first) + count_parts(second) > 40:
            continue
        if all(is_small(first, second, given=given_joined(names, joining), most=12) for joining in all_joinings(len(names))):
            found.append((first, second))
    return found


PAIRS = some_pairs()


class Across(Case):

    def test_likenesses_follow_from_one_another(self):
        met = set()
        for first, second in PAIRS:
            told = [are_alike(first, second, likeness) for likeness in ("late", "early", "rooted", "weak")]
            self.assertEqual(told, sorted(told), (first, second))
            met.add(tuple(told))
            try:
                if open_alike(first, second):
                    self.assertIs(alike_joined(first, second, "late"), True)
            except NotOpen:
                self.assertIn("unlike", repr((first, second)))
        self.assertGreater(len(met), 3)

    def test_papers(self):
        makers = {"weak": (weak_paper, is_weak_paper), "rooted": (rooted_paper, is_rooted_paper)}
        for first, second in PAIRS:
            for likeness in FOUR:
                make, judge = makers.get(likeness, (lambda a, b, word=likeness: alike_paper(a, b, word), lambda a, b, paper, word=likeness: is_alike_paper(a, b, word, paper)))
                if are_alike(first, second, likeness):
                    self.assertIs(judge(first, second, make(first, second)), True)
                else:
                    with self.assertRaises(Unlike):
                        make(first, second)

    def test_forms(self):
        counted = {True: 0, False: 0}
        for first, second in PAIRS:
            if not is_finite(first) or not is_finite(second):
                continue
            for likeness in FOUR:
                try:
                    same = form_of(first, AS_IS, 4, likeness) == form_of(second, AS_IS, 4, likeness)
                    joined = joined_forms(first, 4, likeness) == joined_forms(second, 4, likeness)
                except TooGreat:
                    continue
                self.assertIs(same, are_alike(first, second, likeness))
                self.assertIs(joined, alike_joined(first, second, likeness))
                counted[same] += 1
        self.assertGreater(min(counted.values()), 20, counted)

    def test_sentences(self):
        counted = {True: 0, False: 0}
        for first, second in PAIRS:
            for likeness in ("early", "late"):
                told = alike(first, second, likeness)
                counted[told] += 1
                if told:
                    self.refused(NoMove, {}, parting, first, second, likeness)
                    self.refused(NoMove, {}, rounds_apart, first, second, likeness)
                else:
                    sentence = parting(first, second, likeness)
                    self.assertIs(parts(first, second, sentence), True)
                    self.assertEqual(depth_of(sentence), rounds_apart(first, second, likeness))
        self.assertGreater(min(counted.values()), 20, counted)

    def test_joinings(self):
        for first, second in PAIRS:
            names = both_names(first, second)
            for likeness in FOUR:
                told = [joining for joining in all_joinings(len(names)) if are_alike(first, second, likeness, given_joined(names, joining))]
                self.assertEqual(alike_at(first, second, likeness), tuple(told))
                self.assertIs(alike_joined(first, second, likeness), len(told) == len(all_joinings(len(names))))
                if alike_joined(first, second, likeness):
                    self.assertIs(is_joined_paper(first, second, likeness, joined_paper(first, second, likeness)), True)

    def test_renaming_and_surroundings_that_join(self):
        counted = 0
        for first, second in PAIRS[::2]:
            names = both_names(first, second)
            for joining in all_joinings(len(names)):
                given = given_joined(names, joining)
                around = joining_surrounding(names, joining)
                for likeness in FOUR:
                    told = are_alike(first, second, likeness, given)
                    self.assertIs(are_alike(renamed(first, given), renamed(second, given), likeness), told)
                    if likeness == "rooted":
                        continue
                    try:
                        inside = are_alike(surrounded(around, first), surrounded(around, second), likeness)
                    except TooGreat:
                        continue
                    self.assertIs(inside, told)
                    counted += 1
        self.assertGreater(counted, 200)

    def test_open_papers_and_attacks(self):
        counted = {True: 0, False: 0}
        for first, second in PAIRS:
            try:
                told = open_alike(first, second)
            except (NotOpen, TooGreat):
                continue
            counted[told] += 1
            if told:
                self.assertIs(is_open_paper(first, second, open_paper(first, second)), True)
                self.refused(NoMove, {}, open_attack, first, second)
            else:
                open_attack(first, second)
                with self.assertRaises(Unlike):
                    open_paper(first, second)
        self.assertGreater(min(counted.values()), 5, counted)

    def test_sheets(self):
        for first, second in PAIRS:
            lines = [f"program A is {program_text(first)}", f"program B is {program_text(second)}"]
            lines += [f"say A like B {likeness}" for likeness in FOUR] + [f"say A joined B {likeness}" for likeness in ("early", "late")]
            told = [are_alike(first, second, likeness) for likeness in FOUR] + [alike_joined(first, second, likeness) for likeness in ("early", "late")]
            sheet = Sheet("\n".join(lines))
            self.assertEqual([truth for _, truth in sheet], told)
            self.assert_same((sheet.named("A"), sheet.named("B")), (first, second))
            self.assert_same(read_program(program_text(first)), first)

    def test_houses_answer_each_other(self):
        counted = 0
        for first, second in PAIRS:
            names = tuple(range(6))
            houses = (House(first), House(second))
            told = alike(houses[0].as_program(names), houses[1].as_program(names), "early")
            self.assertIs(told, alike(first, second, "early"))
            if told:
                counted += self.answered(houses, names) + self.answered(houses[::-1], names)
        self.assertGreater(counted, 50)

    def answered(self, houses, names):
        """Asks that each step of the one house is answered by the other; how many there were."""
        one_house, other = houses
        counted = 0
        for deed in steps_of(one_house):
            led = one_house.copy()
            led.do(deed)
            found = False
            for answer in steps_of(other):
                back = other.copy()
                back.do(answer)
                if led.trace()[-1] != back.trace()[-1]:
                    continue
                # Names that one of them has forgotten still stand for the same ones.
                every = names + tuple(sorted(set(led.names() + back.names()) - set(names)))
                found = found or alike(led.as_program(every), back.as_program(every), "early")
            self.assertTrue(found, (one_house.program, other.program, deed))
            counted += 1
        return counted

    def test_lone_waits_are_marks(self):
        for first, second in PAIRS:
            for program in (first, second):
                waits = lone_waits(program)
                self.assertIs(are_marks(program, waits), True)
                self.assertLessEqual(set(waits), set(greatest_marks(program)))


def steps_of(house):
    """All steps of a house, the stranger being one of two names that it does not know."""
    found = []
    for move, (action, rests) in enumerate(house.moves()):
        for rest in range(len(rests)):
            if action[0] == "take" and rest == len(rests) - 1:
                found += [(move, rest, name) for name in range(8) if name not in house.names()]
            else:
                found.append((move, rest))
    return found
