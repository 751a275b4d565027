"""What the lines of a sheet say: reading their words, and whether it is so."""

from passednames.errors import BadText, NoMove
from passednames.ever import can_ever, still_steps
from passednames.graphs import how_many
from passednames.joinings import alike_joined
from passednames.likeness import alike
from passednames.names import AS_IS
from passednames.openly import open_alike
from passednames.programs import same_but_bound
from passednames.reading import DIGITS, letter_of, number_of
from passednames.silent import alike_rooted, alike_weak

CAPITALS = "ABCDEFGHIJKLMNOPQRSTUVWXYZ"
LONGEST_NAME = 8
BEHIND_VERB = {
    "like": ("program", "likeness"), "joined": ("program", "early or late"), "same": ("program",),
    "standings": ("number",), "ever": ("action",), "still": (),
}
BEHIND_ACTION = {"wait": (), "send": ("letter",), "open": ("letter",), "take": ("letter",)}
WORDS = {"likeness": ("early", "late", "weak", "rooted", "open"), "early or late": ("early", "late")}


def is_free_name(word, programs):
    """Whether this can be the name of another program."""
    if len(word) > LONGEST_NAME or word[0] not in CAPITALS or word in programs:
        return False
    return all([sign in CAPITALS or sign in DIGITS for sign in word])


def need_saying(words, line, programs):
    """Raises BadText with the place of the first word that is not as told behind say or deny."""
    wanted = ["verb", "program"]
    for place in range(1, len(words)):
        if not wanted or not is_wanted(wanted[-1], words[place], programs):
            raise BadText(line, place)
        symbol = wanted.pop()
        if symbol == "verb":
            wanted.extend(list(BEHIND_VERB[words[place]])[::-1])
        if symbol == "action":
            wanted.extend(list(BEHIND_ACTION[words[place]]))
    if wanted:
        raise BadText(line, len(words))


def is_wanted(symbol, word, programs):
    """Whether a word is what this symbol tells."""
    if symbol == "program":
        return word in programs
    if symbol == "verb":
        return word in BEHIND_VERB
    if symbol == "action":
        return word in BEHIND_ACTION
    if symbol == "letter":
        return letter_of(word) is not None
    if symbol == "number":
        return number_of(word) is not None
    return word in WORDS[symbol]


def is_so(words, programs):
    """Whether it is so what the words of a saying behind say or deny tell."""
    program = programs[words[0]]
    verb = words[1]
    if verb == "like":
        return are_like(program, programs[words[2]], words[3])
    if verb == "joined":
        return alike_joined(program, programs[words[2]], words[3])
    if verb == "same":
        return same_but_bound(program, programs[words[2]])
    if verb == "standings":
        return how_many(program) == number_of(words[2])
    return can_be(program, words)


def are_like(one, other, likeness):
    """Whether two programs are alike by one of the five likenesses, names as they are."""
    if likeness == "weak":
        return alike_weak(one, other)
    if likeness == "rooted":
        return alike_rooted(one, other)
    if likeness == "open":
        return open_alike(one, other)
    return alike(one, other, likeness)


def can_be(program, words):
    """Whether some run of a program does an action, or leads to a standing without a move."""
    try:
        if words[1] == "still":
            still_steps(program, AS_IS, ("open", "send", "take", "wait"))
        else:
            can_ever(program, AS_IS, wanted_by(words[2:]))
    except NoMove:
        return False
    return True


def wanted_by(words):
    """What can_ever is asked by the words of an action: whatever name is sent."""
    wanted = (words[0],) + tuple([letter_of(word) for word in words[1:]])
    if words[0] == "send":
        return wanted + (None,)
    return wanted
