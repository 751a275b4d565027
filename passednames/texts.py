"""Programs as texts."""

from passednames.errors import BadText
from passednames.programs import need_program
from passednames.reading import LETTERS, program_in, words_in

SIGNS = {"one": ("(", "+", ")"), "beside": ("[", "/", "]")}


def program_text(program):
    """The text of a program."""
    definitions, main = need_program(program)
    words = []
    for params, body in definitions:
        words.extend(["def"] + words_of_letters(params) + words_of(body) + [";"])
    return " ".join(words + words_of(main))


def words_of(piece):
    """The list of the words of a piece."""
    word = piece[0]
    if word in SIGNS:
        return words_of_row(piece[1], SIGNS[word])
    if word == "call":
        return ["call", str(piece[1])] + words_of_letters(piece[2])
    names = [LETTERS[name] for name in piece[1:-1]]
    return [word] + names + words_of(piece[-1])


def words_of_row(items, signs):
    """The list of the words of a one or beside, signs being the words ahead, between and behind."""
    ahead, between, behind = signs
    words = [ahead]
    for place, item in enumerate(items):
        if place > 0:
            words.append(between)
        words.extend(words_of(item))
    return words + [behind]


def words_of_letters(names):
    """The list of the words of a row of names."""
    return ["("] + [LETTERS[name] for name in names] + [")"]


def read_program(text):
    """The program that a text tells."""
    if not isinstance(text, str):
        raise BadText(0, 0)
    return need_program(program_in(words_in(text), 0, 0))
