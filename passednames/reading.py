"""Reading the words of a program, one by one, from the left.

What is wanted next is told by symbols: what is to be read, a number of values to put together, or PUT
for a value to put into the row ahead of it. What has been read need not be a program: it has the form of one.
"""

from passednames.errors import BadText, TooGreat

MOST_WORDS = 400
LETTERS = "abcdefghij"
DIGITS = "0123456789"
PUT = "put"
# No word is this: a word has no blank.
END = "no more"
BRANCH_WORDS = ("send", "take", "wait", "alike", "unlike")
BEHIND = {
    "send": ("letter", "letter", "piece", 4), "take": ("letter", "letter", "piece", 4), "wait": ("piece", 2),
    "alike": ("letter", "letter", "branch", 4), "unlike": ("letter", "letter", "branch", 4),
    "new": ("letter", "piece", 3), "call": ("number", "(", "letters", 3), "(": ("branches", 2), "[": ("pieces", 2),
}
BEGUN_ROWS = {"(": ("one", ()), "[": ("beside", ())}
BEHIND_DEF = ("(", "letters", "piece", ";", 2, "put", "program")


class Reading:
    """What is wanted, the next last, and what has been made so far, the row of the definitions first."""

    def __init__(self):
        self.wanted = [END, "program"]
        self.made = [()]


def want(reading, symbols):
    """Puts these symbols, the first one next, ahead of all that is wanted."""
    reading.wanted.extend(list(symbols)[::-1])


def words_in(text):
    """The list of the words of a text without line feeds."""
    return [word for word in text.split(" ") if word]


def letter_of(word):
    """The name that a letter tells, None for another word."""
    if len(word) != 1 or word not in LETTERS:
        return None
    return LETTERS.index(word)


def number_of(word):
    """The number that at most two digits tell, None for another word."""
    if len(word) > 2 or not all([digit in DIGITS for digit in word]) or (len(word) == 2 and word[0] == "0"):
        return None
    return int(word)


def program_in(words, start, line):
    """What the words from a place on tell; raises BadText with the line and the place of the first wrong one."""
    reading = Reading()
    for place in range(start, len(words)):
        if place == MOST_WORDS:
            raise TooGreat(MOST_WORDS)
        put_together(reading)
        if not reads(reading, words[place]):
            raise BadText(line, place)
    put_together(reading)
    if reading.wanted != [END]:
        raise BadText(line, len(words))
    return tuple(reading.made)


def put_together(reading):
    """Puts values together as long as this is what is wanted."""
    wanted, made = reading.wanted, reading.made
    while isinstance(wanted[-1], int) or wanted[-1] == PUT:
        many = wanted.pop()
        if many == PUT:
            item = made.pop()
            made[-1] = made[-1] + (item,)
        else:
            whole = tuple(made[-many:])
            del made[-many:]
            made.append(whole)


def read_program(reading, word):
    """Another definition, or MAIN."""
    if word != "def":
        return read_piece(reading, word)
    want(reading, BEHIND_DEF)
    return True


def read_piece(reading, word):
    """The first word of a piece."""
    if word not in BEHIND:
        return False
    reading.made.extend(list(BEGUN_ROWS.get(word, (word,))))
    want(reading, BEHIND[word])
    return True


def read_branch(reading, word):
    """The first word of a branch."""
    return word in BRANCH_WORDS and read_piece(reading, word)


def read_branches(reading, word):
    """The first branch in a one, or its end."""
    want(reading, () if word == ")" else (PUT, "more branches"))
    return word == ")" or read_branch(reading, word)


def read_more_branches(reading, word):
    """Another branch in a one, or its end."""
    want(reading, () if word == ")" else ("branch", PUT, "more branches"))
    return word in (")", "+")


def read_pieces(reading, word):
    """The first piece in a beside, or its end."""
    want(reading, () if word == "]" else (PUT, "more pieces"))
    return word == "]" or read_piece(reading, word)


def read_more_pieces(reading, word):
    """Another piece in a beside, or its end."""
    want(reading, () if word == "]" else ("piece", PUT, "more pieces"))
    return word in ("]", "/")


def read_opening(reading, word):
    """What stands ahead of letters."""
    reading.made.append(())
    return word == "("


def read_letters(reading, word):
    """Another letter, or the end of the letters."""
    if word == ")":
        return True
    want(reading, (PUT, "letters"))
    return read_letter(reading, word)


def read_letter(reading, word):
    """A letter."""
    reading.made.append(letter_of(word))
    return letter_of(word) is not None


def read_number(reading, word):
    """The number of a definition."""
    reading.made.append(number_of(word))
    return number_of(word) is not None


READERS = {
    "program": read_program, "piece": read_piece, "branch": read_branch, "branches": read_branches,
    "more branches": read_more_branches, "pieces": read_pieces, "more pieces": read_more_pieces, "(": read_opening,
    "letters": read_letters, "letter": read_letter, "number": read_number,
}


def reads(reading, word):
    """Takes the next word; whether it is wanted."""
    symbol = reading.wanted.pop()
    if symbol not in READERS:
        return word == symbol
    reader = READERS[symbol]
    return reader(reading, word)
