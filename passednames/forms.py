"""Forms: what a finite program does, told so that alike ones are equal.

While forms are found they have numbers, and an entry is a pair (ACTION, numbers): the numbers
are those of its forms. In this way no form is looked through more than once.
"""

from passednames.errors import TooGreat

MOST_IN_FORM = 2000


class Forms:
    """The forms that have been found: numbers by their rows of entries, and lists of the rows, forms, sizes."""

    def __init__(self):
        self.numbers = {}
        self.rows = []
        self.told = []
        self.sizes = []


def number_of_form(forms, entries):
    """The number of the form with these entries; TooGreat if it is too great."""
    row = tuple(sorted(set(entries)))
    if row not in forms.numbers:
        size = 1 + len(row) + sum([forms.sizes[number] for _, numbers in row for number in numbers])
        if size > MOST_IN_FORM:
            raise TooGreat(MOST_IN_FORM)
        forms.numbers[row] = len(forms.rows)
        forms.rows.append(row)
        forms.told.append(tuple(sorted([told_entry(forms, action, numbers) for action, numbers in row])))
        forms.sizes.append(size)
    return forms.numbers[row]


def told_entry(forms, action, numbers):
    """An entry with its forms; those of a late take, which are for all names, are a tuple."""
    if action[0] == "take" and len(action) == 2:
        return action + (tuple([forms.told[number] for number in numbers]),)
    return action + (forms.told[numbers[0]],)


def leaves_first(steps):
    """The list of the numbers of all standings, each behind those to which its moves lead."""
    done = {}
    while len(done) < len(steps):
        for place, row in enumerate(steps):
            if place not in done and all([rest in done for _, rests in row for rest in rests]):
                done[place] = True
    return list(done)


def strong_form(steps, late):
    """The early or late form of the first standing."""
    forms = Forms()
    numbers = {}
    for place in leaves_first(steps):
        entries = []
        for action, rests in steps[place]:
            behind = tuple([numbers[rest] for rest in rests])
            if late:
                entries.append((action, behind))
            else:
                entries.extend([(case, (number,)) for case, number in zip(cases_of(action, rests), behind)])
        numbers[place] = number_of_form(forms, entries)
    return forms.told[numbers[0]]


def cases_of(action, rests):
    """The list of the actions of a move, one for each rest: of a take with the name that is taken."""
    if action[0] != "take":
        return [action]
    return [action + (taken,) for taken in range(len(rests))]


def weak_form(steps, rooted):
    """The weak or rooted form of the first standing."""
    forms = Forms()
    numbers = {}
    # For each standing the entries of its closed-up moves, and the forms to which silent rows lead.
    entries, ends = {}, {}
    for place in leaves_first(steps):
        entries[place] = closed_up(steps[place], numbers, entries, ends)
        numbers[place] = number_less_wait(forms, entries[place])
        waits = [rest for action, rests in steps[place] if action[0] == "wait" for rest in rests]
        ends[place] = sorted(set([numbers[place]] + [number for rest in waits for number in ends[rest]]))
    if rooted:
        return forms.told[number_of_form(forms, entries[0])]
    return forms.told[numbers[0]]


def closed_up(row, numbers, entries, ends):
    """The list of the unlike entries of the closed-up moves of a standing with these moves."""
    found = []
    for action, rests in row:
        if action[0] == "wait":
            found.append((action, (numbers[rests[0]],)))
            found.extend(entries[rests[0]])
        else:
            for case, rest in zip(cases_of(action, rests), rests):
                found.extend([(case, (number,)) for number in ends[rest]])
    return sorted(set(found))


def number_less_wait(forms, entries):
    """The number of the weak form with these entries: a wait to all the others adds nothing."""
    for action, numbers in entries:
        if action[0] == "wait":
            others = [entry for entry in entries if entry != (action, numbers)]
            if list(forms.rows[numbers[0]]) == others:
                return numbers[0]
    return number_of_form(forms, entries)
