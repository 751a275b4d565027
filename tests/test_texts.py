"""Point 61: programs as texts."""

import random

from passednames.errors import BadPiece, BadProgram, BadText, TooGreat
from passednames.programs import need_program
from passednames.texts import program_text, read_program
from tests import samples
from tests.grammar import wrong_word
from tests.samples import (Case, HOLE, STOP, Odd, beside, call, circling_programs, main, new, of_parts, one, random_programs, send, take, unlike,
                           values_of_every_kind, wait, waits)

EXAMPLE = (((((0,), ("take", 0, 1, ("call", 0, (1,)))),), ("beside", (("call", 0, (2,)), ("one", ())))),
           "def ( a ) take a b call 0 ( b ) ; [ call 0 ( c ) / ( ) ]")
WORDS = ("def", "(", ")", "[", "]", "+", "/", ";", "new", "call", "send", "take", "wait", "alike", "unlike", "a", "j", "0", "12")
ODD_WORDS = ("k", "A", "aa", "00", "01", "100", "-1", "1.0", "Send", "sends", "one", "beside", "hole", "wait\t", "\t", "\n", "a\n", "wait\nwait", "()", "a,b", "\u0661",
             "\u00b2", "\u20ac", "a\u00a0b", "\u00a0", "0x1", "+1", "piece", "put", "end", "letter", "letters", "program", "branches", "no", "more", "4")


class Texts(Case):

    def told(self, program, text):
        self.assert_same(program_text(program), text)
        self.assert_same(program_text(program=program), text)
        self.assert_same(read_program(text), program)
        self.assert_same(read_program(text=text), program)

    def test_the_example(self):
        self.told(*EXAMPLE)

    def test_each_form(self):
        for piece, text in (
                (STOP, "( )"), (wait(), "wait ( )"), (send(0, 9), "send a j ( )"), (take(1, 2, send(2, 2)), "take b c send c c ( )"),
                (samples.alike(3, 4, wait()), "alike d e wait ( )"), (unlike(5, 6, samples.alike(7, 8, send(0, 0))), "unlike f g alike h i send a a ( )"),
                (one(wait()), "( wait ( ) )"), (one(wait(), send(0, 1, one(wait()))), "( wait ( ) + send a b ( wait ( ) ) )"),
                (one(*[wait()] * 3), "( wait ( ) + wait ( ) + wait ( ) )"), (beside(), "[ ]"), (beside(STOP), "[ ( ) ]"),
                (beside(wait(), beside(), STOP), "[ wait ( ) / [ ] / ( ) ]"), (new(5, new(6, beside(send(5, 6)))), "new f new g [ send f g ( ) ]"),
                (one(samples.alike(0, 1, send(0, 1, new(2, STOP)))), "( alike a b send a b new c ( ) )")):
            self.told(main(piece), text)

    def test_definitions(self):
        self.told(main(call(1, 4, 4), ((), wait()), ((0, 9), take(0, 9, call(0)))), "def ( ) wait ( ) ; def ( a j ) take a j call 0 ( ) ; call 1 ( e e )")
        self.told(main(STOP, *[((), STOP)] * 4), "def ( ) ( ) ; " * 4 + "( )")
        self.told(main(call(0, 0, 1, 2, 3), ((4, 3, 2, 1), STOP)), "def ( e d c b ) ( ) ; call 0 ( a b c d )")

    def test_there_and_back(self):
        for program in random_programs(61, 150) + circling_programs(62, 40) + [of_parts(80), main(waits(11))]:
            text = program_text(program)
            self.assertEqual(text, " ".join(text.split()))
            if len(text.split()) <= 400:
                self.assert_same(read_program(text), program)
                self.assertIsNone(wrong_word(text.split(" ")))

    def test_blanks(self):
        program, text = EXAMPLE
        for wide in (" " + text, text + " ", "   " + text.replace(" ", "    ") + "  ", text.replace("(", "  (")):
            self.assert_same(read_program(wide), program)
            self.assert_same(program_text(read_program(wide)), text)

    def test_programs_alone_are_told(self):
        for value in values_of_every_kind():
            with self.assertRaises((BadProgram, BadPiece, TooGreat)):
                program_text(value)
        self.refused(BadPiece, {"path": (1,)}, program_text, main(HOLE))
        self.refused(BadPiece, {"path": (1,)}, program_text, main(("sends", 0, (), STOP)))


class Reading(Case):

    def wrong(self, text, word):
        self.refused(BadText, {"line": 0, "word": word}, read_program, text)
        self.assertEqual(wrong_word([each for each in text.split(" ") if each]), word)

    def test_what_is_no_text(self):
        for value in values_of_every_kind():
            if not isinstance(value, str):
                self.refused(BadText, {"line": 0, "word": 0}, read_program, value)
        self.wrong("", 0)
        self.wrong("   ", 0)
        for text in ("a", "send", "one", "\u20ac"):
            self.refused(BadText, {"line": 0, "word": 1 if text == "send" else 0}, read_program, text)

    def test_words_that_are_lacking(self):
        text = EXAMPLE[1]
        words = text.split(" ")
        for many in range(len(words)):
            self.wrong(" ".join(words[:many]), many)

    def test_words_left_out_put_in_and_exchanged(self):
        counted = 0
        for text in (EXAMPLE[1], "( wait ( ) + unlike a b send a b ( wait ( ) ) )", "new c [ ( ) / take a b wait [ ] / call 0 ( ) ]",
                     "def ( ) wait call 1 ( ) ; def ( ) ( ) ; ( alike a b wait ( ) )"):
            words = text.split(" ")
            for place in range(len(words) + 1):
                changed = [words[:place] + [word] + words[place:] for word in WORDS + ODD_WORDS]
                changed += [words[:place] + [word] + words[place + 1:] for word in WORDS + ODD_WORDS]
                changed += [words[:place] + words[place + 1:], words[:place] + words[place + 1:place + 2] + words[place:place + 1] + words[place + 2:]]
                for each in changed:
                    number = wrong_word(each)
                    if number is None:
                        self.reads_or_is_no_program(" ".join(each))
                    else:
                        self.refused(BadText, {"line": 0, "word": number}, read_program, " ".join(each))
                        counted += 1
        self.assertGreater(counted, 1000)

    def reads_or_is_no_program(self, text):
        try:
            program = read_program(text)
        except (BadProgram, BadPiece, TooGreat):
            return
        self.assertEqual(program_text(program), text)

    def test_drawn_words(self):
        chance = random.Random(63)
        for _ in range(2000):
            words = [chance.choice(WORDS) for _ in range(chance.randrange(12))]
            if chance.randrange(2):
                words = ["("] + words + [")"]
            number = wrong_word(words)
            if number is None:
                self.reads_or_is_no_program(" ".join(words))
            else:
                self.refused(BadText, {"line": 0, "word": number}, read_program, " ".join(words))

    def test_tabs_and_line_feeds_within_words(self):
        for text, word in (("wait\t( )", 0), ("wait (\n)", 1), ("wait ( )\n", 2), ("send a\tb ( )", 1), ("\nwait ( )", 0), ("( ) \n", 2), ("wait\r ( )", 0),
                           ("send a b\u00a0 ( )", 2)):
            self.wrong(text, word)

    def test_letters_and_numbers(self):
        self.assert_same(read_program("def ( j ) take j a ( ) ; call 0 ( a )"), main(call(0, 0), ((9,), take(9, 0))))
        for word in ("k", "A", "", "aa", "0", "_"):
            if word:
                self.wrong("send a " + word + " ( )", 2)
        for number in ("00", "01", "100", "-1", "+0", "1.0", "\u0661", "a"):
            self.wrong("call " + number + " ( )", 1)
        for number in ("0", "9", "10", "99"):
            self.refused(BadPiece, {"path": (1,)}, read_program, f"call {number} ( )")

    def test_what_can_be_read_and_is_no_program(self):
        self.refused(BadPiece, {"path": (1,)}, read_program, "call 0 ( )")
        self.refused(BadPiece, {"path": (1,)}, read_program, "( " + " + ".join(["wait ( )"] * 21) + " )")
        self.refused(BadPiece, {"path": (1,)}, read_program, "[ " + " / ".join(["( )"] * 5) + " ]")
        self.refused(BadProgram, {"place": (0,)}, read_program, "def ( ) ( ) ; " * 5 + "( )")
        self.refused(BadProgram, {"place": (0, 0)}, read_program, "def ( a a ) ( ) ; ( )")
        self.refused(BadProgram, {"place": (0, 1)}, read_program, "def ( ) ( ) ; def ( a b c d e ) ( ) ; ( )")
        self.refused(BadProgram, {"place": (0, 0)}, read_program, "def ( ) send a a ( ) ; ( )")
        self.refused(BadPiece, {"path": (0, 0, 1)}, read_program, "def ( ) [ ] ; ( )")
        self.refused(TooGreat, {"most": 12}, read_program, "wait " * 12 + "( )")
        self.refused(TooGreat, {"most": 80}, read_program, "( " + " + ".join(["wait wait wait wait ( )"] * 17) + " )")
        # A wrong word is told ahead of what is no program.
        self.wrong("[ " + " / ".join(["( )"] * 5), 15)
        self.wrong("call 0 ( ) ;", 4)

    def test_four_hundred_words(self):
        # Definitions of letters alone: a text may be long without being deep.
        text = "def ( " + "a " * 393 + ") ( ) ; ( )"
        self.assertEqual(len(text.split()), 401)
        self.refused(TooGreat, {"most": 400}, read_program, text)
        self.refused(BadProgram, {"place": (0, 0)}, read_program, "def ( " + "a " * 392 + ") ( ) ; ( )")
        for end in (" (", " wrong", " ( ) more"):
            self.refused(TooGreat, {"most": 400}, read_program, ("wait " * 400).strip() + end)
        self.refused(BadText, {"line": 0, "word": 400}, read_program, "wait " * 400)
        self.refused(TooGreat, {"most": 12}, read_program, "wait " * 398 + "( )")
        self.refused(TooGreat, {"most": 400}, read_program, "wait " * 399 + "( )")
        self.refused(BadText, {"line": 0, "word": 399}, read_program, "wait " * 399 + "wrong " * 5)
        self.refused(BadText, {"line": 0, "word": 2}, read_program, "( ) " * 300)
        self.refused(TooGreat, {"most": 400}, read_program, "( wait ( ) " + "+ wait ( ) " * 99 + ") wrong")
        # A program with more words than can be read.
        program = main(beside(*[one(*[send(0, 1, call(0, 0, 1, 2, 3))] * 9)] * 4), ((0, 1, 2, 3), STOP))
        self.assertIs(need_program(program), program)
        self.assertGreater(len(program_text(program).split(" ")), 400)
        self.refused(TooGreat, {"most": 400}, read_program, program_text(program))
