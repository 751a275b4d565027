"""Point 44: the check of forms, programs that are written from them."""

import random

from passednames.errors import BadForm, BadLikeness, BadParameter, TooGreat
from passednames.formed import form_of
from passednames.names import AS_IS
from passednames.programs import free_names, is_finite, need_program, parts_of
from passednames.written import need_form, program_of
from tests import formal, samples
from tests.samples import Case, Odd, main, near_programs, new, one, random_programs, send, take, take_families, values_of_every_kind, wait
from tests.test_formed import LATE_OF_2000, OF_1999
from tests.test_joinings import FOUR
from tests.test_silent import is_small

NOT_LATE = ("early", "weak", "rooted")
SENT = ("send", 0, 0, ())


def nested(many):
    """A form with so many forms on the way to the deepest one."""
    form = ()
    for _ in range(many - 1):
        form = (("wait", form),)
    return form


def of_size(size, known=5):
    """A form over 5 names with so many forms and entries, an odd number."""
    if size == 1:
        return ()
    heads = [("send", a, b) for a in range(known) for b in range(known)]
    left = (size - 1) // 2
    entries = []
    for place, head in enumerate(heads):
        share = left // (len(heads) - place) if place < len(heads) - 1 else left
        if share > 0:
            entries.append((*head, of_size(2 * share - 1)))
            left -= share
    return tuple(entries)


def taken(name, known, inner=()):
    """Entries of early takes on a name, all going on by one form."""
    return tuple(("take", name, case, inner) for case in range(known + 1))


def names_opened(many, known):
    """A form that opens so many names one behind the other."""
    form = ()
    for _ in range(many):
        form = (("open", 0, form),)
    return form


class NeedForm(Case):

    def good(self, value, known, likenesses=FOUR):
        for likeness in likenesses:
            self.assertIs(need_form(value, known, likeness), value)
            self.assertIs(need_form(value=value, known=known, likeness=likeness), value)

    def bad(self, place, value, known, likenesses=FOUR):
        for likeness in likenesses:
            self.refused(BadForm, {"place": place}, need_form, value, known, likeness)
            self.refused(BadForm, {"place": place}, program_of, value, known, likeness)

    def test_forms(self):
        self.good((), 0)
        self.good((("wait", ()),), 0)
        self.good((("wait", ()), ("wait", (("wait", ()),))), 0)
        self.good((("send", 0, 0, ()), ("send", 0, 1, ()), ("send", 1, 0, ())), 2)
        self.good((("open", 0, (("send", 1, 0, ()), ("send", 1, 1, ()))),), 1)
        self.good((("open", 0, (("open", 1, (("send", 2, 1, ()),)),)),), 1)
        self.good(taken(0, 2), 2, NOT_LATE)
        self.good(taken(0, 2) + taken(1, 2, (SENT,)), 2, NOT_LATE)
        self.good((("take", 0, ((), ())), ("take", 0, ((), (("send", 1, 1, ()),)))), 1, ("late",))
        self.good((("take", 0, 0, ()), ("take", 0, 0, (SENT,)), ("take", 0, 1, (("send", 1, 0, ()),))), 1, NOT_LATE)
        self.good((("open", 0, ()), ("send", 0, 0, ()), ("take", 0, 0, ()), ("take", 0, 1, ()), ("wait", ())), 1, NOT_LATE)

    def test_forms_of_programs(self):
        for program in random_programs(451, 60, 4):
            if is_finite(program) and is_small(program, most=25):
                for likeness in FOUR:
                    for known in (4, 5):
                        try:
                            told = form_of(program, AS_IS, known, likeness)
                        except TooGreat:
                            continue
                        self.good(told, known, (likeness,))

    def test_no_tuple_and_no_entries(self):
        values = [value for value in values_of_every_kind() if not isinstance(value, tuple)]
        for value in values:
            self.bad((), value, 2)
            self.bad((0,), (("wait", value),), 2)
            self.bad((0,), (value,), 2)
            self.bad((1,), (SENT, ("send", 0, 1, value)), 2)
            self.bad((1,), (SENT, value), 2)
        for value in values_of_every_kind():
            self.bad((0,), (value,), 2)
            self.bad((0, 0), (("wait", (value,)),), 2)
        for entry in (("wait",), ("wait", (), ()), ("send", 0, 0), ("send", 0, 0, (), ()), ("send", 2, 0, ()), ("send", 0, 2, ()),
                      ("send", -1, 0, ()), ("send", 0, True, ()), ("send", False, 0, ()), ("send", 0, 0.0, ()), ("send", None, 0, ()),
                      ("open", 0), ("open", 0, (), ()), ("open", 2, ()), ("open", True, ()), ("open", (), 0), ("Wait", ()), ("alike", 0, 1, ()),
                      (), ("give", 0, ((), (), ())), ("give", 0, 0, ()), ["wait", ()], (b"wait", ()), ("take",), ("take", 0), (("wait", ()),), ("new", 0, ()), ("", ())):
            self.bad((0,), (entry,), 2)
            self.bad((1, 0), (SENT, ("wait", (entry,))), 2)

    def test_takes(self):
        for entry in (("take", 2, 0, ()), ("take", 0, 3, ()), ("take", 0, -1, ()), ("take", 0, True, ()), ("take", False, 0, ()),
                      ("take", 0, 0), ("take", 0, ((), (), ())), ("take", 0, None, ()), ("take", 0, 0, (), ())):
            self.bad((0,), (entry,), 2, NOT_LATE)
        for entry in (("take", 2, ((), (), ())), ("take", 0, ((), ())), ("take", 0, ((), (), (), ())), ("take", 0, [(), (), ()]),
                      ("take", True, ((), (), ())), ("take", 0, 0, ()), ("take", 0, ()), ("take", 0, None)):
            self.bad((0,), (entry,), 2, ("late",))
        # A case is left out; this is found behind all entries, and ahead of what stands further out.
        for left_out in range(3):
            cases = taken(0, 2)[:left_out] + taken(0, 2)[left_out + 1:]
            self.bad((), cases, 2, NOT_LATE)
            self.bad((), taken(0, 2) + tuple(("take", 1, *entry[2:]) for entry in cases), 2, NOT_LATE)
            self.bad((1,), (SENT, ("wait", cases)), 2, NOT_LATE)
        self.bad((1,), (("take", 0, 0, ()), ("wait", None)), 2, NOT_LATE)
        self.bad((2,), (("take", 0, 0, ()), ("wait", ()), ("wait", ())), 2, NOT_LATE)
        self.bad((0,), (("wait", (("take", 0, 0, ()),)), ("wait", ())), 2, NOT_LATE)

    def test_names_that_there_are(self):
        self.good((("open", 0, (("send", 2, 2, ()),)),), 2)
        self.bad((0, 0), (("open", 0, (("send", 3, 0, ()),)),), 2)
        self.bad((0, 0), (("send", 0, 0, (("send", 2, 0, ()),)),), 2)
        self.bad((0, 0), (("wait", (("send", 2, 0, ()),)),), 2)
        self.bad((0,), (("send", 0, 0, ()),), 0)
        self.bad((0,), (("open", 0, ()),), 0)
        third = (("send", 2, 2, ()),)
        self.good((("take", 0, 0, ()), ("take", 0, 1, ()), ("take", 0, 2, third)), 2, NOT_LATE)
        self.bad((1, 0), (("take", 0, 0, ()), ("take", 0, 1, third), ("take", 0, 2, third)), 2, NOT_LATE)
        self.good((("take", 0, ((), (), third)),), 2, ("late",))
        for case in (0, 1):
            forms = [(), (), third]
            forms[case] = third
            self.bad((0, case, 0), (("take", 0, tuple(forms)),), 2, ("late",))

    def test_places_of_forms_of_late_takes(self):
        for case in range(3):
            forms = [(), (), ()]
            forms[case] = None
            self.bad((0, case), (("take", 0, tuple(forms)),), 2, ("late",))
            forms[case] = (("wait", ()), None)
            self.bad((1, case, 1), (SENT, ("take", 0, tuple(forms))), 2, ("late",))
            forms[case] = (("take", 0, 0, ()),)
            self.bad((0, case, 0), (("take", 0, tuple(forms)),), 2, ("late",))

    def test_entries_ascend(self):
        self.bad((1,), (SENT, SENT), 2)
        self.bad((1,), (("send", 0, 1, ()), SENT), 2)
        self.bad((2,), (SENT, ("wait", ()), ("open", 0, ())), 2)
        self.bad((1,), (("wait", (("wait", ()),)), ("wait", ())), 2)
        self.bad((1,), (("take", 0, 1, ()), ("take", 0, 0, ()), ("take", 0, 2, ())), 2, NOT_LATE)
        self.bad((0, 1), (("wait", (SENT, SENT)),), 2)
        # The forms of an entry are looked at ahead of its order, and it is one first of all.
        self.bad((1, 0), (("wait", ()), ("send", 0, 0, (None,))), 2)
        self.bad((1,), (("wait", ()), ("send", 0, 9, (None,))), 2)
        self.bad((0, 0), (("wait", (None,)), None), 2)

    def test_60_and_61_forms_on_one_way(self):
        self.good(nested(60), 0)
        for likeness in FOUR:
            for asked in (need_form, program_of):
                self.refused(TooGreat, {"most": 60}, asked, nested(61), 0, likeness)
        # The 61st form is not looked at, nor is what stands behind it.
        odd = None
        for _ in range(60):
            odd = (("wait", odd), None)
        for likeness in FOUR:
            self.refused(TooGreat, {"most": 60}, need_form, odd, 0, likeness)
        ended = None
        for _ in range(59):
            ended = (("wait", ended),)
        self.bad((0,) * 59, ended, 0)

    def test_2000_and_2001_forms_and_entries(self):
        self.assertEqual([formal.size(of_size(size)) for size in (1, 3, 51, 53, 1999, 2001)], [1, 3, 51, 53, 1999, 2001])
        self.good(of_size(1999), 5)
        for likeness in FOUR:
            for asked in (need_form, program_of):
                self.refused(TooGreat, {"most": 2000}, asked, of_size(2001), 5, likeness)
        # A late take has seven things: itself and six forms.
        even = of_size(1993) + (("take", 0, ((),) * 6),)
        self.assertEqual(formal.size(even), 2000)
        self.good(even, 5, ("late",))
        for more in ((None,), (("wait", ()),), (("wait", None),)):
            self.refused(TooGreat, {"most": 2000}, need_form, even + more, 5, "late")
        # One more thing is too many, whatever it is; up to there errors are found first.
        self.refused(TooGreat, {"most": 2000}, need_form, of_size(1999) + (("wait", None),), 5, "early")
        self.bad((len(of_size(1997)),), of_size(1997) + (("wait", None),), 5)
        self.bad((len(of_size(1999)),), of_size(1999) + (None,), 5)
        self.bad((0,), (None,) + of_size(2001), 5)

    def test_known_and_likeness_come_first(self):
        for value in values_of_every_kind() + [6, 100, -1]:
            if isinstance(value, bool) or not isinstance(value, int) or not 0 <= value <= 5:
                for asked in (need_form, program_of):
                    self.refused(BadParameter, {"value": value}, asked, None, value, None)
            for asked in (need_form, program_of):
                self.refused(BadLikeness, {"value": value}, asked, None, 0, value)
        for known in range(6):
            self.good((), known)
            self.good(tuple(("send", name, name, ()) for name in range(known)), known)
            self.bad((known,), tuple(("send", name, name, ()) for name in range(known + 1)), known)
        for likeness in ("open", "Late", "earl"):
            self.refused(BadLikeness, {"value": likeness}, need_form, (), 0, likeness)

    def test_odd_values(self):
        for value in (Odd(), (Odd(),), (("wait", Odd()),), (("send", Odd(), 0, ()),), ((Odd(), ()),)):
            for likeness in FOUR:
                with self.assertRaises(BadForm):
                    need_form(value, 1, likeness)


class ProgramOf(Case):

    def back(self, form, known, likeness):
        """That the form's program has this form again."""
        program = program_of(form, known, likeness)
        self.assertEqual(program_of(value=form, known=known, likeness=likeness), program)
        self.assertIs(need_program(program), program)
        self.assertEqual(program[0], ())
        self.assertLessEqual(set(free_names(program)), set(range(known)))
        self.assertEqual(form_of(program, AS_IS, known, likeness), form, program)
        return program

    def test_small_programs(self):
        for likeness in FOUR:
            self.assert_same(self.back((), 0, likeness), main(one()))
            self.assert_same(self.back((SENT, ("send", 1, 0, ())), 2, likeness), main(one(send(0, 0, one()), send(1, 0, one()))))
            self.assert_same(self.back((("open", 0, (("send", 2, 1, ()),)),), 2, likeness),
                             main(new(2, one(send(0, 2, one(send(2, 1, one())))))))
        for likeness in ("early", "late", "rooted"):
            self.assert_same(self.back((("wait", ()),), 0, likeness), main(one(wait(one()))))
        self.assert_same(self.back((("take", 0, ((), (("wait", ()),))),), 1, "late"),
                         main(one(take(0, 1, one(samples.unlike(1, 0, wait(one())))))))
        self.assert_same(self.back((("take", 0, 0, (SENT,)), ("take", 0, 1, ())), 1, "early"),
                         main(one(take(0, 1, one(samples.alike(1, 0, send(0, 0, one())))))))

    def test_takes_with_several_forms(self):
        sent = (("send", 1, 1, ()),)
        early = (("take", 0, 0, ()), ("take", 0, 0, (SENT,)), ("take", 0, 1, ()), ("take", 0, 1, (SENT,)), ("take", 0, 1, sent))
        program = self.back(early, 1, "early")
        self.assertEqual(len([part for _, part in parts_of(program) if part[0] == "take"]), 3)
        self.back(early, 1, "weak")
        late = (("take", 0, ((), sent)), ("take", 0, ((SENT,), ())), ("take", 0, ((SENT,), (SENT,))))
        self.back(late, 1, "late")

    def test_opens_behind_takes(self):
        opened = (("open", 0, (("send", 0, 1, ()),)),)
        self.back((("take", 0, 0, opened), ("take", 0, 1, ())), 1, "early")
        self.back((("take", 0, 0, ()), ("take", 0, 1, (("open", 1, (("send", 2, 1, ()),)),))), 1, "early")
        self.back((("take", 0, (opened, (("open", 0, ()), ("open", 1, (("send", 1, 2, ()),))))),), 1, "late")

    def test_there_and_back(self):
        counts = {}
        programs = [program for program in random_programs(461, 110, 4) + random_programs(462, 40, 5) if is_finite(program)]
        programs += [program for pair in near_programs(463, 40, 3) + take_families(464, 12) for program in pair if is_finite(program)]
        for program in programs:
            if not is_small(program, most=25):
                continue
            known = max(free_names(program), default=-1) + 1
            for likeness in FOUR:
                for many in {known, 4}:
                    try:
                        form = form_of(program, AS_IS, many, likeness)
                        program_of(form, many, likeness)
                    except TooGreat:
                        continue
                    self.back(form, many, likeness)
                    counts[likeness] = counts.get(likeness, 0) + 1
        self.assertTrue(all(count > 200 for count in counts.values()), counts)

    def test_many_waits(self):
        for likeness in ("early", "late"):
            self.back(nested(6), 0, likeness)
            self.refused(TooGreat, {"most": 12}, program_of, nested(31), 0, likeness)
            self.refused(TooGreat, {"most": 12}, program_of, nested(60), 0, likeness)

    def test_20_and_21_branches(self):
        pairs = [("send", a, b, ()) for a in range(5) for b in range(5)]
        for likeness in FOUR:
            self.back(tuple(pairs[:20]), 5, likeness)
            self.refused(TooGreat, {"most": 20}, program_of, tuple(pairs[:21]), 5, likeness)
            self.refused(TooGreat, {"most": 20}, program_of, (("send", 0, 0, tuple(pairs[:21])),), 5, likeness)
        # Behind a take the branches for all names stand in one.
        rows = [tuple(pairs[:4]), tuple(pairs[:5]), tuple(pairs[:5]), tuple(pairs[:3]), tuple(pairs[:3]), ()]
        for extra in (0, 1):
            rows[5] = tuple(pairs[:extra])
            early = tuple(("take", 0, case, form) for case, form in enumerate(rows))
            late = (("take", 0, tuple(rows)),)
            for form, likeness in ((early, "early"), (early, "weak"), (early, "rooted"), (late, "late")):
                if extra:
                    self.refused(TooGreat, {"most": 20}, program_of, form, 5, likeness)
                else:
                    self.back(form, 5, likeness)
        # As many takes as there are forms for one name.
        takes = tuple(("take", 0, 0, nested_sends(many)) for many in range(3)) + tuple(("take", 0, case, ()) for case in range(1, 6))
        for likeness in NOT_LATE:
            self.back(tuple(pairs[:17]) + takes, 5, likeness)
            self.refused(TooGreat, {"most": 20}, program_of, tuple(pairs[:18]) + takes, 5, likeness)

    def test_no_names_left(self):
        for likeness in FOUR:
            # Five names are known, five are opened, and for the next one none is left.
            self.refused(TooGreat, {"most": 10}, program_of, names_opened(6, 5), 5, likeness)
            self.refused(TooGreat, {"most": 12}, program_of, names_opened(5, 5), 5, likeness)
            self.refused(TooGreat, {"most": 10}, program_of, (("open", 0, tuple(("send", a, b, names_opened(5, 5)) for a in range(5) for b in range(5))),),
                         5, likeness)
            self.back(names_opened(3, 2), 2, likeness)

    def test_no_names_left_for_takes(self):
        def strangers(many, known, late):
            if many == 0:
                return ()
            inner = strangers(many - 1, known + 1, late)
            if late:
                return (("take", 0, ((),) * known + (inner,)),)
            return taken(0, known - 1) + (("take", 0, known, inner),)

        for likeness in FOUR:
            late = likeness == "late"
            self.refused(TooGreat, {"most": 10}, program_of, strangers(6, 5, late), 5, likeness)
            self.refused(TooGreat, {"most": 12}, program_of, strangers(5, 5, late), 5, likeness)
            self.back(strangers(2, 1, late), 1, likeness)

    def test_a_name_that_is_opened_behind_a_take(self):
        # Nine names, the taken one, and the opened one: none is left, though the form opens but a tenth.
        for opened, most in ((4, 10), (3, 12)):
            for case in (0, 2):
                known = 5 + opened
                form = tuple(("take", 0, place, (("open", 0, ()),) if place == case else ()) for place in range(known + 1))
                late = (("take", 0, tuple((("open", 0, ()),) if place == case else () for place in range(known + 1))),)
                for _ in range(opened):
                    form, late = (("open", 0, form),), (("open", 0, late),)
                for likeness in NOT_LATE:
                    self.refused(TooGreat, {"most": most}, program_of, form, 5, likeness)
                self.refused(TooGreat, {"most": most}, program_of, late, 5, "late")

    def test_the_least_form_stands_where_there_is_no_other(self):
        # Three takes for the three forms of the name 1; only one of them has the great form of the name 0.
        great = tuple(("send", a, b, ()) for a in range(5) for b in range(3))
        small = ((), nested_sends(1), nested_sends(2))
        cases = [("take", 0, 0, form) for form in ((), great)] + [("take", 0, 1, form) for form in small]
        cases += [("take", 0, case, ()) for case in range(2, 6)]
        program = self.back(tuple(sorted(cases)), 5, "early")
        self.assertEqual(len([part for _, part in parts_of(program) if part[0] == "take"]), 3)

    def test_forms_that_would_be_written_many_times(self):
        # On each level there are two takes, and both go on by all that is further in.
        form = ()
        for _ in range(50):
            form = (("take", 0, 0, form), ("take", 0, 1, ()), ("take", 0, 1, (SENT,)))
        for likeness in NOT_LATE:
            self.assertIs(need_form(form, 1, likeness), form)
            self.refused(TooGreat, {"most": 12}, program_of, form, 1, likeness)

    def test_errors_of_the_program(self):
        for likeness in FOUR:
            for form, known in ((form_of(OF_1999, AS_IS, 5, "early"), 5), (form_of(LATE_OF_2000, AS_IS, 5, "late"), 5)):
                try:
                    need_form(form, known, likeness)
                except BadForm:
                    continue
                with self.assertRaises(TooGreat):
                    program_of(form, known, likeness)
        four = tuple(("send", a, b, (("send", 0, 0, (("send", 0, 0, ()),)),)) for a in range(3) for b in range(5))
        self.refused(TooGreat, {"most": 80}, program_of, four, 5, "early")
        # Too many branches come ahead of too many parts, and both behind names that are not left.
        wide = tuple(("send", a, b, (("send", 0, 0, (("send", 0, 0, ()),)),)) for a in range(5) for b in range(5))
        self.refused(TooGreat, {"most": 20}, program_of, wide, 5, "early")
        self.refused(TooGreat, {"most": 10}, program_of, wide + (("wait", names_opened(6, 5)),), 5, "early")
        self.refused(TooGreat, {"most": 20}, program_of, wide + (("wait", nested(40)),), 5, "early")

    def test_forms_of_no_program(self):
        # What is returned then is free, but it is a program or an error that is told.
        chance = random.Random(465)
        for _ in range(60):
            form = tuple(sorted({("send", chance.randrange(2), chance.randrange(2), ()), ("wait", (("wait", ()),)), ("wait", ())}))
            for likeness in FOUR:
                self.assertIsInstance(program_of(form, 2, likeness), tuple)


def nested_sends(many):
    """A form of so many sends one behind the other."""
    form = ()
    for _ in range(many):
        form = (("send", 0, 0, form),)
    return form
