"""Rules for a beside. Each returns what a part becomes, None if it does not fit."""

from passednames.onerules import has_item, with_items
from passednames.plain import least_not_in
from passednames.pieces import free_of
from passednames.shapes import branches_of, free_of_all, going_on_as, is_branch_or_one, put_in, tests_and_prefix
from passednames.shapes import turned, under_all

GREATEST_NAME = 9


def drop(part, args):
    """An item that does nothing goes."""
    place = args[0]
    if not has_item(part, "beside", place) or part[1][place] not in (("one", ()), ("beside", ())):
        return None
    return with_items(part, place, 1, ())


def flat(part, args):
    """The items of a beside stand for it."""
    place = args[0]
    if not has_item(part, "beside", place) or part[1][place][0] != "beside":
        return None
    return with_items(part, place, 1, part[1][place][1])


def out(part, args):
    """The new of an item goes around the whole."""
    place = args[0]
    if not has_item(part, "beside", place) or part[1][place][0] != "new":
        return None
    _, name, piece = part[1][place]
    if name in free_of_all(others_than(part[1], place)):
        return None
    return ("new", name, with_items(part, place, 1, (piece,)))


def others_than(items, place):
    """The items but for the one at a place."""
    return items[:place] + items[place + 1:]


def meet(part, _):
    """A beside of branches and ones becomes a one of all that it can do."""
    if part[0] != "beside" or not all([is_branch_or_one(item) for item in part[1]]):
        return None
    branches = [(place, branch) for place, item in enumerate(part[1]) for branch in branches_of(item)]
    found = []
    for place, branch in branches:
        clear = clear_of(branch, free_of_all(others_than(part[1], place)))
        if clear is None:
            return None
        found.append(going_on_beside(part, place, clear))
    for place, branch in branches:
        for other_place, other in branches:
            if place != other_place:
                found.extend(meetings_of_two(part, (place, other_place), branch, other))
    return ("one", tuple(found))


def clear_of(branch, names):
    """The branch, binding none of these names; None if no name is left that it can bind."""
    tests, prefix = tests_and_prefix(branch)
    if prefix[0] != "take" or prefix[2] not in names:
        return branch
    name = least_not_in(names + list(free_of(prefix[3])))
    if name > GREATEST_NAME:
        return None
    return under_all(tests, turned(prefix, name))


def going_on_beside(part, place, branch):
    """The branch, going on beside the other items."""
    _, prefix = tests_and_prefix(branch)
    return going_on_as(branch, with_items(part, place, 1, (prefix[-1],)))


def meetings_of_two(part, places, branch, other):
    """The list of the branch in which two branches meet, a send ahead of a take; else of none."""
    tests, send = tests_and_prefix(branch)
    other_tests, take = tests_and_prefix(other)
    if send[0] != "send" or take[0] != "take":
        return []
    behind = with_items(part, places[0], 1, (send[3],))
    behind = with_items(behind, places[1], 1, (put_in(take[3], take[2], send[2]),))
    return [under_all(tests + other_tests, ("alike", send[1], take[1], ("wait", behind)))]


BESIDE_RULES = {"drop": drop, "flat": flat, "out": out, "meet": meet}
