"""Rules for a one, or for a one or beside. Each returns what a part becomes, None if it does not fit."""

from passednames.pieces import ROWS
from passednames.shapes import branches_of, goes_on_as, going_on_as, is_branch_or_one, tests_and_prefix


def with_items(part, place, many, items):
    """The one or beside with other items in the place of so many of its own."""
    return (part[0], part[1][:place] + items + part[1][place + many:])


def has_item(part, word, place):
    """Whether a part is a one, or a beside, with an item at this place."""
    return part[0] == word and place < len(part[1])


def order(part, args):
    """Two items, one behind the other, are exchanged."""
    place = args[0]
    if part[0] not in ROWS or not has_item(part, part[0], place + 1):
        return None
    return with_items(part, place, 2, (part[1][place + 1], part[1][place]))


def bare(part, _):
    """The only item stands for the whole."""
    if part[0] not in ROWS or len(part[1]) != 1:
        return None
    return part[1][0]


def once(part, args):
    """The second of two like branches goes."""
    place = args[0]
    if not has_item(part, "one", place + 1) or part[1][place] != part[1][place + 1]:
        return None
    return with_items(part, place + 1, 1, ())


def never(part, args):
    """A branch goes that asks whether a name is unlike itself."""
    place = args[0]
    if not has_item(part, "one", place):
        return None
    tests, _ = tests_and_prefix(part[1][place])
    if not any([word == "unlike" and first == second for word, first, second in tests]):
        return None
    return with_items(part, place, 1, ())


def split_in_two(part, args):
    """A branch becomes two: for names that are alike, and for names that are not."""
    place, first, second = args
    if not has_item(part, "one", place):
        return None
    branch = part[1][place]
    return with_items(part, place, 1, (("alike", first, second, branch), ("unlike", first, second, branch)))


def join_two(part, args):
    """Two branches become one, of which one is for names that are alike, the other for the same, unlike."""
    place = args[0]
    if not has_item(part, "one", place + 1):
        return None
    branch, other = part[1][place], part[1][place + 1]
    if branch[0] != "alike" or other[0] != "unlike" or branch[1:] != other[1:]:
        return None
    return with_items(part, place, 2, (branch[3],))


def early(part, args):
    """A take is added that goes on as one of two takes does, or as the other, if a name is taken or not."""
    place, other_place, name = args
    if not has_item(part, "one", place) or not has_item(part, "one", other_place):
        return None
    take, other = part[1][place], part[1][other_place]
    if take[0] != "take" or take[:3] != other[:3] or take[2] == name:
        return None
    if not is_branch_or_one(take[3]) or not is_branch_or_one(other[3]):
        return None
    branches = [("alike", take[2], name, branch) for branch in branches_of(take[3])]
    branches.extend([("unlike", take[2], name, branch) for branch in branches_of(other[3])])
    return ("one", part[1] + (take[:3] + (("one", tuple(branches)),),))


def ahead(part, args):
    """What can be done behind a wait can be done without it, too."""
    place = args[0]
    if not has_item(part, "one", place):
        return None
    branch = part[1][place]
    if branch[0] != "wait" or not is_branch_or_one(branch[1]):
        return None
    return ("one", part[1] + branches_of(branch[1]))


def reach(part, args):
    """A branch that goes on to a one with a wait goes on to what is behind this wait, too."""
    place, inner_place = args
    if not has_item(part, "one", place):
        return None
    branch = part[1][place]
    inner = goes_on_as(branch)
    if not has_item(inner, "one", inner_place) or inner[1][inner_place][0] != "wait":
        return None
    return ("one", part[1] + (going_on_as(branch, inner[1][inner_place][1]),))


ONE_RULES = {
    "order": order, "bare": bare, "once": once, "never": never, "split": split_in_two, "join": join_two, "early": early,
    "ahead": ahead, "reach": reach,
}
