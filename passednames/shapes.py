"""Branches taken apart and put together, and names put in for others."""

from passednames.names import AS_IS
from passednames.pieces import BRANCHES, TESTS, bound_name, free_of, kept_or_least, with_names


def tests_and_prefix(branch):
    """The pair (list of the tests (word, A, B) ahead, send, take or wait behind them) of a branch."""
    tests = []
    while branch[0] in TESTS:
        tests.append(branch[:3])
        branch = branch[3]
    return (tests, branch)


def under_all(tests, branch):
    """The branch behind these tests, the first one outermost."""
    for test in reversed(tests):
        branch = test + (branch,)
    return branch


def goes_on_as(branch):
    """What a branch goes on to."""
    _, prefix = tests_and_prefix(branch)
    return prefix[-1]


def going_on_as(branch, piece):
    """The branch, going on to another piece."""
    tests, prefix = tests_and_prefix(branch)
    return under_all(tests, prefix[:-1] + (piece,))


def is_branch_or_one(piece):
    """Whether a piece is a branch or a one."""
    return piece[0] in BRANCHES or piece[0] == "one"


def branches_of(piece):
    """The tuple of the branches of a one; a branch is the only one of its own."""
    if piece[0] == "one":
        return piece[1]
    return (piece,)


def free_of_all(pieces):
    """The ascending list of the names that are free in some of these pieces."""
    return sorted(set([name for piece in pieces for name in free_of(piece)]))


def put_in(piece, name, other):
    """The piece with another name in the place of a free one, catching none."""
    return with_names(piece, AS_IS[:name] + (other,) + AS_IS[name + 1:], kept_or_least)


def turned(piece, name):
    """The take or new with another bound name, which is not free in what it goes on to."""
    bound = bound_name(piece)
    behind = put_in(piece[-1], bound, name)
    if piece[0] == "new":
        return ("new", name, behind)
    return ("take", piece[1], name, behind)
