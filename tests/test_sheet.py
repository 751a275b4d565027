"""Point 62: sheets."""

import random

from passednames.errors import BadParameter, BadPiece, BadProgram, BadText, NotOpen, TooGreat
from passednames.sheet import Sheet
from passednames.texts import program_text
from tests import samples
from tests.samples import (Case, STOP, Odd, beside, main, near_programs, new, one, random_programs, send, take, unlike, values_of_every_kind, wait, waits)
from tests.test_likeness import NINE

TWO = main(one(take(0, 1, wait()), take(0, 1)))
THREE = main(one(*TWO[1][1], take(0, 1, samples.alike(1, 2, wait()))))
LEFT = main(beside(send(0, 0), take(1, 2)))
RIGHT = main(one(send(0, 0, take(1, 2)), take(1, 2, send(0, 0))))
PROGRAMS = {"TWO": TWO, "THREE": THREE, "LEFT": LEFT, "RIGHT": RIGHT, "W": main(wait()), "WW": main(waits(2)), "S": main(STOP), "TAU": main(one(wait(), wait(wait()))),
            "OPENS": main(new(5, send(3, 5, take(5, 6)))), "TURNED": main(take(0, 5, wait())), "TAKES": main(take(0, 9, wait())), "N8": main(send(4, 9))}
NAMED = "\n".join(f"program {name} is {program_text(program)}" for name, program in PROGRAMS.items())


def sheet(*lines):
    """The sheet of the named programs and these lines."""
    return Sheet(NAMED + "\n" + "\n".join(lines))


class Sayings(Case):

    def so(self, saying, truth):
        """Whether a saying is so, said and denied."""
        told = sheet("say " + saying, "deny " + saying)
        many = len(PROGRAMS)
        self.assert_same(told.rows, ((many, truth), (many + 1, not truth)))
        self.assertIs(told.all_true(), False)
        self.assertIs(sheet(("say " if truth else "deny ") + saying).all_true(), True)

    def test_like(self):
        for saying, truth in (("TWO like THREE early", True), ("TWO like THREE late", False), ("THREE like TWO late", False), ("LEFT like RIGHT early", True),
                              ("LEFT like RIGHT late", True), ("W like WW weak", True), ("W like WW rooted", True), ("W like WW early", False),
                              ("W like S weak", True), ("W like S rooted", False), ("S like S open", True), ("LEFT like RIGHT open", False),
                              ("TURNED like TAKES open", True), ("TWO like THREE open", False), ("WW like TAU weak", True)):
            self.so(saying, truth)

    def test_joined(self):
        for saying, truth in (("LEFT joined RIGHT early", False), ("LEFT joined RIGHT late", False), ("TWO joined THREE early", True), ("TWO joined THREE late", False),
                              ("W joined W late", True)):
            self.so(saying, truth)

    def test_same(self):
        for saying, truth in (("TURNED same TAKES", True), ("TURNED same TURNED", True), ("LEFT same RIGHT", False), ("W same WW", False)):
            self.so(saying, truth)

    def test_standings(self):
        for saying, truth in (("S standings 1", True), ("W standings 2", True), ("WW standings 3", True), ("WW standings 0", False), ("WW standings 99", False),
                              ("LEFT standings 4", True), ("LEFT standings 10", False)):
            self.so(saying, truth)

    def test_ever(self):
        for saying, truth in (("W ever wait", True), ("S ever wait", False), ("LEFT ever wait", False), ("LEFT ever send a", True), ("LEFT ever send b", False),
                              ("LEFT ever take b", True), ("LEFT ever take a", False), ("OPENS ever open d", True), ("OPENS ever open a", False),
                              ("OPENS ever send d", False), ("N8 ever send e", True), ("N8 ever send j", False), ("N8 ever open e", False),
                              # What is opened has no name from a to j.
                              ("OPENS ever take a", False), ("OPENS ever take f", False)):
            self.so(saying, truth)

    def test_still(self):
        circle = "program C is call 0 ( )"
        self.so("S still", True)
        self.so("WW still", True)
        told = Sheet("program C is def ( ) wait call 0 ( ) ; call 0 ( )\nsay C still\ndeny C still\nsay C ever wait")
        self.assert_same(told.rows, ((1, False), (2, True), (3, True)))
        self.refused(BadPiece, {"path": (1,)}, Sheet, circle)

    def test_against_the_functions(self):
        from passednames.joinings import alike_joined, both_names
        from passednames.likeness import alike
        from passednames.openly import open_alike
        from passednames.silent import alike_rooted, alike_weak
        counted = 0
        for first, second in near_programs(621, 25, 3):
            if len(both_names(first, second)) > 3 or "unlike" in repr((first, second)):
                continue
            lines = [f"program A is {program_text(first)}", f"program B is {program_text(second)}"]
            lines += [f"say A like B {word}" for word in ("early", "late", "weak", "rooted", "open")] + ["say A joined B early", "say A joined B late"]
            told = [asked(first, second) for asked in (
                lambda a, b: alike(a, b, "early"), lambda a, b: alike(a, b, "late"), alike_weak, alike_rooted, open_alike,
                lambda a, b: alike_joined(a, b, "early"), lambda a, b: alike_joined(a, b, "late"))]
            self.assertEqual([truth for _, truth in Sheet("\n".join(lines))], told)
            counted += 1
        self.assertGreater(counted, 5)


class Sheets(Case):

    def test_rows_and_length(self):
        told = Sheet("program A is wait ( )\n\n  say   A still \ndeny A ever wait\n\nprogram B2 is ( )\nsay B2 standings 1\n")
        self.assert_same(told.rows, ((2, True), (3, False), (6, True)))
        self.assertEqual((len(told), list(told), [row for row in told]), (3, list(told.rows), list(told.rows)))
        self.assertIs(told.all_true(), False)
        none = Sheet("program A is ( )")
        self.assert_same((none.rows, len(none), list(none), none.all_true()), ((), 0, [], True))
        self.assertEqual(Sheet(text="program A is ( )").rows, ())

    def test_named(self):
        told = sheet()
        for name, program in PROGRAMS.items():
            self.assert_same(told.named(name), program)
            self.assert_same(told.named(name=name), program)
        for value in values_of_every_kind() + ["X", "two", "TWO ", "A"]:
            self.refused(BadParameter, {"value": value}, told.named, value)

    def test_as_text(self):
        wide = "\n  program   A  is  wait  (  ) \n\n say A still\n   \ndeny   A  ever send   a\n\n"
        told = Sheet(wide)
        self.assertEqual(str(told), "program A is wait ( )\nsay A still\ndeny A ever send a")
        self.assertTrue(Sheet(str(told)) == told)
        self.assertEqual((told.rows, Sheet(str(told)).rows), (((3, True), (5, True)), ((1, True), (2, True))))
        self.assertFalse(told != Sheet(str(told)))
        self.assertTrue(told != Sheet("program A is wait ( )\nsay A still"))
        self.assertFalse(Sheet("program A is wait ( )\nsay A still") == Sheet("program A is wait ( )\ndeny A still"))
        # The order of lines counts, and so do names.
        self.assertFalse(Sheet("program A is ( )\nprogram B is [ ]") == Sheet("program B is [ ]\nprogram A is ( )"))
        self.assertFalse(Sheet("program A is ( )") == Sheet("program B is ( )"))
        for value in values_of_every_kind() + [str(told)]:
            if not isinstance(value, Odd):
                self.assertFalse(told == value)

    def test_drawn_sheets(self):
        chance = random.Random(62)
        for seed in range(30):
            programs = random_programs(6200 + seed, 3, 3)
            lines = [f"program {name} is {program_text(program)}" for name, program in zip("ABC", programs)]
            for _ in range(chance.randrange(5)):
                saying = chance.choice(("A same B", "B same C", "A same A", "C same B"))
                lines.insert(chance.randrange(3, len(lines) + 1), chance.choice(("say ", "deny ")) + saying)
            spread = "\n".join(chance.choice(("", " ", "   ")) + line.replace(" ", " " * chance.randrange(1, 4)) + chance.choice(("", "\n", "\n  \n", " ")) for line in lines)
            told = Sheet(spread)
            self.assertEqual(str(told), "\n".join(lines))
            self.assertTrue(Sheet(str(told)) == told)
            self.assertEqual([truth for _, truth in told], [truth for _, truth in Sheet(str(told))])
            for name, program in zip("ABC", programs):
                self.assert_same(told.named(name), program)


class Wrong(Case):

    def wrong(self, text, line, word):
        self.refused(BadText, {"line": line, "word": word}, Sheet, text)

    def test_what_is_no_sheet(self):
        for value in values_of_every_kind():
            if not isinstance(value, str):
                self.wrong(value, 0, 0)
        for text in ("", " ", "\n", "  \n \n\n", "\n" * 500):
            self.wrong(text, 0, 0)
        self.wrong("\n\nwait ( )", 2, 0)

    def test_how_many_lines(self):
        self.assertEqual(Sheet("program A is ( )" + "\n" * 199).rows, ())
        self.refused(TooGreat, {"most": 200}, Sheet, "program A is ( )" + "\n" * 200)
        self.refused(TooGreat, {"most": 200}, Sheet, "wrong\n" * 200)
        self.wrong("wrong\n" * 199, 0, 0)
        self.wrong("\n" * 199 + "wrong", 199, 0)
        lines = ["program A is wait ( )"] + ["say A still"] * 199
        self.assertEqual(len(Sheet("\n".join(lines))), 199)
        self.refused(TooGreat, {"most": 200}, Sheet, "\n".join(lines + [""]))

    def test_wrong_words_at_each_place(self):
        good = {"say A like B early": 5, "deny A like B open": 5, "say A joined B late": 5, "say A same B": 4, "say B standings 12": 4, "say A ever wait": 4, "say A ever send j": 5,
                "deny B ever open a": 5, "say A ever take c": 5, "say A still": 3, "program C is wait ( )": 6}
        head = "program A is ( )\nprogram B is wait ( )\n"
        for text, many in good.items():
            words = text.split()
            self.assertEqual(len(words), many)
            Sheet(head + text)
            for place in range(many):
                # A name of nine signs, one letter, words in the wrong place: right nowhere.
                for word in ("x", "A1B2C3D4E", "likes", "Say", "late1", "\u20ac", "100", "01", "k", "()", "wait\t"):
                    self.wrong(head + " ".join(words[:place] + [word] + words[place + 1:]), 2, place)
                if place:
                    self.wrong(head + " ".join(words[:place]) + " ", 2, place)
            self.wrong(head + text + " more", 2, many)
            self.wrong(head + text + " " + text, 2, many)
            self.wrong(head + "\n" + text + " (", 3, many)

    def test_likenesses_numbers_and_letters(self):
        head = "program A is ( )\nsay A "
        for word in ("early", "late"):
            self.assertEqual(len(Sheet(head + "joined A " + word)), 1)
        for word in ("weak", "rooted", "open", "Early", "all"):
            self.wrong(head + "joined A " + word, 1, 4)
        for word in ("Open", "strong", "earl", "early,"):
            self.wrong(head + "like A " + word, 1, 4)
        for word in ("0", "9", "10", "99"):
            self.assertEqual(len(Sheet(head + "standings " + word)), 1)
        for word in ("00", "07", "100", "-1", "+1", "1.0", "a", "\u0661", "\u00b9"):
            self.wrong(head + "standings " + word, 1, 3)
        for letter in "abcdefghij":
            self.assertEqual(len(Sheet(head + "ever take " + letter)), 1)
        for word in ("k", "A", "aa", "0"):
            self.wrong(head + "ever open " + word, 1, 4)
        self.wrong(head + "ever wait a", 1, 4)
        self.wrong(head + "ever send", 1, 4)
        self.wrong(head + "ever send a b", 1, 5)
        self.wrong(head + "still wait", 1, 3)

    def test_names(self):
        for name in ("A", "Z", "A1", "ABCDEFGH", "Z9999999", "Q0X"):
            self.assert_same(Sheet(f"program {name} is ( )").named(name), main(STOP))
        for name in ("a", "1A", "ABCDEFGHI", "Aa", "A_", "A-1", "\u00c4", "A\u00c4", "A\u0661", "is", "A\t"):
            self.wrong(f"program {name} is ( )", 0, 1)
        # Given twice, not given, given in a later line.
        self.wrong("program A is ( )\nprogram A is ( )", 1, 1)
        self.wrong("program A is ( )\nprogram A wrong", 1, 1)
        self.wrong("program A is ( )\nsay B still", 1, 1)
        self.wrong("program A is ( )\nsay A same B\nprogram B is ( )", 1, 3)
        self.wrong("say A still\nprogram A is ( )", 0, 1)
        self.assertEqual(len(Sheet("program SAY is ( )\nsay SAY same SAY")), 1)

    def test_words_of_programs(self):
        self.wrong("program A", 0, 2)
        self.wrong("program", 0, 1)
        self.wrong("program A is", 0, 3)
        self.wrong("program A was ( )", 0, 2)
        self.wrong("program A is wait", 0, 4)
        self.wrong("program A is wait ( ) ;", 0, 6)
        self.wrong("program A is send a k ( )", 0, 5)
        self.wrong("program A is ( )\n\nprogram B is ( wait )", 2, 5)
        self.refused(BadPiece, {"path": (1,)}, Sheet, "program A is call 0 ( )")
        self.refused(BadProgram, {"place": (0, 0)}, Sheet, "program A is def ( a a ) ( ) ; ( )")
        self.refused(TooGreat, {"most": 12}, Sheet, "program A is " + "wait " * 12 + "( )")

    def test_the_first_wrong_line(self):
        self.wrong("program A is ( )\nsay A stil\nwrong", 1, 2)
        self.wrong("program A is ( )\nsay A still x\nprogram A is ( )", 1, 3)
        # What is read and is no program is told in its line: ahead of later lines, behind earlier ones.
        self.refused(BadPiece, {"path": (1,)}, Sheet, "program A is call 0 ( )\nwrong")
        self.wrong("wrong\nprogram A is call 0 ( )", 0, 0)
        self.refused(BadPiece, {"path": (1,)}, Sheet, "program A is call 0 ( )\nprogram B is wait " + "wait " * 12 + "( )")

    def test_four_hundred_words_of_a_line(self):
        def line(many):
            return "program A is " + "wait " * (many - 5) + "( )"
        self.assertEqual(len(line(400).split()), 400)
        self.refused(TooGreat, {"most": 12}, Sheet, line(400))
        self.refused(TooGreat, {"most": 400}, Sheet, line(401))
        self.refused(TooGreat, {"most": 400}, Sheet, "program A is " + "wait " * 397 + "wrong")
        self.wrong("program A is " + "wait " * 397, 0, 400)
        self.wrong("program A is " + "wait " * 396 + "wrong wrong", 0, 399)
        self.wrong("program A is ( )\nsay A still " + "more " * 500, 1, 3)
        # Each line has its own words.
        rows = "\n".join(f"program P{number} is def ( {'a ' * 380}) ( ) ; ( )" for number in range(3))
        self.refused(BadProgram, {"place": (0, 0)}, Sheet, rows)

    def test_errors_of_the_work(self):
        nine = program_text(main(NINE))
        big = program_text(main(beside(waits(4), waits(3), waits(3))))
        head = f"program NINE is {nine}\nprogram BIG is {big}\nprogram U is unlike a b wait ( )\nprogram SIX is send a b send c d send e f ( )\nprogram S is ( )\n"
        self.assertEqual(len(Sheet(head)), 0)
        for saying, most in (("NINE standings 3", 8), ("BIG standings 80", 60), ("BIG like NINE early", 60), ("NINE like BIG weak", 8), ("S joined SIX late", 5),
                             ("NINE ever wait", 8), ("BIG still", 60), ("S like NINE rooted", 8), ("SIX like SIX open", 5)):
            self.refused(TooGreat, {"most": most}, Sheet, head + "say " + saying)
            self.refused(TooGreat, {"most": most}, Sheet, head + "deny " + saying)
        self.refused(NotOpen, {"path": (1,)}, Sheet, head + "say U like S open")
        # All lines are read ahead of the work; of the work the first error is told.
        self.wrong(head + "say NINE standings 3\nsay S still wrong", 6, 3)
        self.refused(NotOpen, {"path": (1,)}, Sheet, head + "say S still\nsay S like U open\nsay NINE still")
        self.refused(TooGreat, {"most": 8}, Sheet, head + "say S still\nsay NINE still\nsay S like U open")
        # Bound names are compared whatever the programs do.
        self.assert_same(Sheet(head + "say NINE same NINE").rows, ((5, True),))
