"""Rules for news, takes and tests. Each returns what a part becomes, None if it does not fit."""

from passednames.pieces import TESTS, bound_names, free_of
from passednames.shapes import branches_of, going_on_as, is_branch_or_one, put_in, tests_and_prefix, turned, under_all


def swap(part, _):
    """Two news, one directly behind the other, are exchanged."""
    if part[0] != "new" or part[2][0] != "new" or part[1] == part[2][1]:
        return None
    return ("new", part[2][1], ("new", part[1], part[2][2]))


def forget(part, _):
    """A new goes whose name stands nowhere."""
    if part[0] != "new" or part[1] in free_of(part[2]):
        return None
    return part[2]


def turn(part, args):
    """The bound name becomes another one."""
    name = args[0]
    if part[0] not in ("new", "take") or (name != part[-2] and name in free_of(part[-1])):
        return None
    return turned(part, name)


def within(part, _):
    """A new goes behind the branches for which it is there, and away from those that can not be done."""
    if part[0] != "new" or not is_branch_or_one(part[2]):
        return None
    name = part[1]
    found = []
    for branch in branches_of(part[2]):
        found.extend(branch_within(name, branch))
    whole = ("one", tuple(found))
    return ("new", name, whole) if name in free_of(whole) else whole


def branch_within(name, branch):
    """The list of what a branch becomes if this name is a new one, of nothing if it can not be done."""
    tests, prefix = tests_and_prefix(branch)
    left = []
    for test in tests:
        word, first, second = test
        if name not in (first, second):
            left.append(test)
        elif (first == second) != (word == "alike"):
            return []
    if prefix[0] != "wait" and prefix[1] == name:
        return []
    is_sent = prefix[0] == "send" and prefix[2] == name
    if not is_sent and name not in bound_names(prefix) and name in free_of(prefix[-1]):
        prefix = going_on_as(prefix, ("new", name, prefix[-1]))
    return [under_all(left, prefix)]


def passing(part, _):
    """A test goes that is always passed."""
    if part[0] != "alike" or part[1] != part[2]:
        return None
    return part[3]


def exchange(part, _):
    """Two tests, one directly behind the other, are exchanged."""
    if part[0] not in TESTS or part[3][0] not in TESTS:
        return None
    return part[3][:3] + (part[:3] + (part[3][3],),)


def about(part, _):
    """The two names of a test are exchanged."""
    if part[0] not in TESTS:
        return None
    return (part[0], part[2], part[1], part[3])


def same(part, args):
    """Behind a test that two names are alike the one is put in for the other."""
    if part[0] != "alike":
        return None
    _, first, second, branch = part
    if args[0] == 0:
        return part[:3] + (put_in(branch, second, first),)
    return part[:3] + (put_in(branch, first, second),)


def hush(part, _):
    """A wait goes that stands directly behind a send, take or wait."""
    if part[0] not in ("send", "take", "wait") or part[-1][0] != "wait":
        return None
    return part[:-1] + (part[-1][1],)


NAME_RULES = {
    "swap": swap, "forget": forget, "turn": turn, "within": within, "pass": passing, "exchange": exchange,
    "about": about, "same": same, "hush": hush,
}
