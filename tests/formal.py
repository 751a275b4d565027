"""Forms once more, as directly from the document as can be, to compare with the program."""

from tests import oracle


def key(form):
    """The form itself: tuples of one shape compare as Python compares them."""
    return form


def first(program, given, known):
    """The first standing in the world."""
    standing, names = oracle.first(program, given)
    return (standing, names, known)


def rests(program, state):
    """A list of (word and names, list of the states behind it, one for each taken name)."""
    standing, names, known = state
    found = []
    for action, pairs in oracle.moves(program, standing):
        told = (action[0], *[names[number] for number in action[1:]])
        if action[0] == "take":
            behind = []
            for taken in range(known + 1):
                after, keys = pairs[names.index(taken) if taken in names else len(names)]
                there = tuple(taken if key == len(names) else names[key] for key in keys)
                behind.append((after, there, max(known, taken + 1)))
        else:
            after, keys = pairs[0]
            there = tuple(known if key == len(names) else names[key] for key in keys)
            behind = [(after, there, known + (action[0] == "open"))]
        found.append((told, behind))
    return found


def strong(program, state, late):
    """The early or late form."""
    entries = []
    for told, behind in rests(program, state):
        forms = [strong(program, rest, late) for rest in behind]
        if told[0] != "take":
            entries.append((*told, forms[0]))
        elif late:
            entries.append((*told, tuple(forms)))
        else:
            entries += [(*told, taken, form) for taken, form in enumerate(forms)]
    return ascending(entries)


def ascending(entries):
    """The unlike entries, ascending."""
    found = []
    for entry in sorted(entries):
        if entry not in found:
            found.append(entry)
    return tuple(found)


def silent(program, state, least):
    """All states behind at least so many waits."""
    found = [state] if least == 0 else []
    for told, behind in rests(program, state):
        if told == ("wait",):
            found += silent(program, behind[0], 0)
    return found


def closed(program, state):
    """The entries of the closed-up moves."""
    entries = [("wait", weak(program, rest)) for rest in silent(program, state, 1)]
    for middle in silent(program, state, 0):
        for told, behind in rests(program, middle):
            if told == ("wait",):
                continue
            for taken, rest in enumerate(behind):
                case = (*told, taken) if told[0] == "take" else told
                entries += [(*case, weak(program, last)) for last in silent(program, rest, 0)]
    return ascending(entries)


def weak(program, state):
    """The weak form."""
    entries = closed(program, state)
    for entry in entries:
        if entry[0] == "wait" and tuple(each for each in entries if each != entry) == entry[1]:
            return entry[1]
    return entries


def form(program, given, known, likeness):
    """What form_of returns."""
    state = first(program, given, known)
    if likeness in ("early", "late"):
        return strong(program, state, likeness == "late")
    return closed(program, state) if likeness == "rooted" else weak(program, state)


def size(form_told):
    """How many forms and entries there are."""
    return 1 + sum(1 + sum(size(inner) for inner in inner_forms(entry)) for entry in form_told)


def inner_forms(entry):
    """The forms in an entry."""
    if entry[0] == "take" and len(entry) == 3:
        return entry[2]
    return entry[-1:]


def states(program, given, known):
    """The set of all states that are met."""
    found = set()
    ahead = [first(program, given, known)]
    while ahead:
        state = ahead.pop()
        if state not in found:
            found.add(state)
            ahead += [rest for _, behind in rests(program, state) for rest in behind]
    return found
