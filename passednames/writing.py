"""Pieces that are written from forms. Forms are taken to be checked already.

The world's names are told by a row: its item W is the name in the program for the world's name W.
"""

from passednames.formwalk import forms_in, names_with
from passednames.plain import least_not_in

# A one within the sixth one stands 13 deep, where no piece may stand, whatever is in it. Takes go on
# by nothing there: they would write the same forms again and again.
MOST_NESTED = 6


def takes_of(form, known):
    """The list of the pairs (name, forms), one form for each name that may be taken, of the takes.

    If there are several forms for a name there are as many takes; the least form fills up the others.
    """
    found = []
    cases = {}
    for entry in form:
        if entry[0] == "take" and len(entry) == 3:
            found.append((entry[1], entry[2]))
        elif entry[0] == "take":
            rows = cases.setdefault(entry[1], [[] for _ in range(known + 1)])
            rows[entry[2]].append(entry[3])
    for name, rows in cases.items():
        for turn in range(max([len(row) for row in rows])):
            found.append((name, tuple([row[turn] if turn < len(row) else min(row, key=size_of) for row in rows])))
    return found


def size_of(form):
    """How many forms and entries there are in a form, itself counted."""
    size = 1
    for entry in form:
        size += 1 + sum([size_of(inner) for _, _, inner in forms_in(entry, 0)])
    return size


def others_in(form):
    """The list of the entries that are no takes."""
    return [entry for entry in form if entry[0] != "take"]


def opens_in(form):
    """Whether a form opens a name."""
    return any([entry[0] == "open" for entry in form])


def branches_of_form(form, known):
    """How many branches are written for a form."""
    return len(others_in(form)) + len(takes_of(form, known))


def ones_at(form, known):
    """The list of the pairs (names in use, branches) of all ones in the piece that is written for a form.

    Behind a take the branches for all names stand in one. If one of them opens a name, that and
    the taken name are in use together.
    """
    found = [(known, branches_of_form(form, known))]
    for _, forms in takes_of(form, known):
        names = known + 2 if any([opens_in(inner) for inner in forms]) else known + 1
        branches = [branches_of_form(inner, names_with(taken, known)) for taken, inner in enumerate(forms)]
        found.append((names, sum(branches)))
    for entry in form:
        for _, many, inner in forms_in(entry, known):
            found.extend(ones_at(inner, many))
    return found


def piece_of(form, row, nested):
    """The piece for a form, which is nested in so many ones, its own one counted."""
    opened = least_not_in(row)
    return in_new(opened, opens_in(form), ("one", tuple(branches_for(form, row, opened, nested))))


def in_new(name, is_needed, piece):
    """The piece, in a new if that is needed."""
    return ("new", name, piece) if is_needed else piece


def branches_for(form, row, opened, nested):
    """The list of the branches for a form; opened is the name that they open."""
    found = []
    for entry in others_in(form):
        if entry[0] == "wait":
            found.append(("wait", piece_of(entry[1], row, nested + 1)))
        elif entry[0] == "send":
            found.append(("send", row[entry[1]], row[entry[2]], piece_of(entry[3], row, nested + 1)))
        else:
            found.append(("send", row[entry[1]], opened, piece_of(entry[2], row + (opened,), nested + 1)))
    for name, forms in takes_of(form, len(row)):
        found.append(take_for(row[name], forms, row, nested + 1))
    return found


def take_for(channel, forms, row, nested):
    """The take that goes on by one of these forms, whichever name of the world is taken."""
    if nested > MOST_NESTED:
        return ("take", channel, 0, ("one", ()))
    taken = least_not_in(row)
    opened = least_not_in(row + (taken,))
    branches = []
    for place, form in enumerate(forms):
        names = row + (taken,) if place == len(row) else row
        for branch in branches_for(form, names, opened, nested):
            branches.append(under_tests(branch, taken, place, row))
    needed = any([opens_in(form) for form in forms])
    return ("take", channel, taken, in_new(opened, needed, ("one", tuple(branches))))


def under_tests(branch, taken, place, row):
    """The branch, if the taken name is the world's name with this place; else if it is none of them."""
    if place < len(row):
        return ("alike", taken, row[place], branch)
    for name in reversed(row):
        branch = ("unlike", taken, name, branch)
    return branch
