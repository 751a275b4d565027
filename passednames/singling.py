"""Row programs told name by name: each row passes on a name of its own."""

from passednames.errors import TooGreat
from passednames.pieces import TESTS, free_of, parts_below, with_parts
from passednames.plain import least_not_in
from passednames.shapes import branches_of, tests_and_prefix

MOST_NAMES = 10


class Singled:
    """What becomes of a row program.

    program is the program that passes name by name. choices has for the path of each choice of the
    row program that of what it becomes, the news around it included; within has the paths of the
    sends and takes on a row's own name.
    """

    def __init__(self, program):
        self.choices = {}
        self.within = {}
        definitions, main = program
        bodies = []
        for number, (params, body) in enumerate(definitions):
            bodies.append((params, singled_piece(self, body, (0, number, 1), (0, number, 1))))
        self.program = (tuple(bodies), singled_piece(self, main, (1,), (1,)))


def singled_piece(singled, piece, path, image):
    """What a piece becomes; path is its own, image that of what it becomes."""
    if piece[0] in ("beside", "new"):
        parts = [singled_piece(singled, part, path + below, image + below) for below, part in parts_below(piece)]
        return with_parts(piece, parts)
    if piece[0] == "call":
        return piece
    return singled_choice(singled, piece, path, image)


def singled_choice(singled, choice, path, image):
    """What a choice becomes, with news around it for the rows that it sends."""
    singled.choices[path] = image
    names = names_of_rows(choice)
    news = [name for name in names if name is not None]
    inside = image + (2,) * len(news)
    if choice[0] == "one":
        branches = []
        for (below, branch), name in zip(parts_below(choice), names):
            branches.append(singled_branch(singled, branch, name, path + below, inside + below))
        choice = ("one", tuple(branches))
    else:
        choice = singled_branch(singled, choice, names[0], path, inside)
    for name in reversed(news):
        choice = ("new", name, choice)
    return choice


def names_of_rows(choice):
    """The list with the new name of each branch that sends a row, None for other branches."""
    taken = list(free_of(choice))
    names = []
    for branch in branches_of(choice):
        _, prefix = tests_and_prefix(branch)
        if prefix[0] == "sends":
            names.append(unused_name(taken))
            taken.append(names[-1])
        else:
            names.append(None)
    return names


def unused_name(taken):
    """The least name that is none of these."""
    name = least_not_in(taken)
    if name >= MOST_NAMES:
        raise TooGreat(MOST_NAMES)
    return name


def singled_branch(singled, branch, name, path, image):
    """What a branch becomes; name is the new one on which it sends a row, if it does."""
    below, part = parts_below(branch)[0]
    if branch[0] in TESTS:
        return with_parts(branch, [singled_branch(singled, part, name, path + below, image + below)])
    if branch[0] == "sends":
        return singled_row(singled, branch, ("send", name), path, image)
    if branch[0] == "takes":
        own = unused_name(list(branch[2]) + list(free_of(part)))
        return singled_row(singled, branch, ("take", own), path, image)
    return with_parts(branch, [singled_piece(singled, part, path + below, image + below)])


def singled_row(singled, branch, step, path, image):
    """What a sends or takes becomes; step is the pair (send or take, the row's own name)."""
    word, own = step
    _, channel, names, part = branch
    for many in range(len(names)):
        singled.within[image + (3,) * (1 + many)] = True
    piece = singled_piece(singled, part, path + (3,), image + (3,) * (1 + len(names)))
    for name in reversed(names):
        piece = (word, own, name, piece)
    return (word, channel, own, piece)
