"""Silent rows and weak moves of one side."""

from passednames.runs import names_behind
from passednames.sides import all_names, waits_of


def behind_waits(side, index):
    """The ascending list of the pairs (K, KEYS) behind one wait or more, one behind the other."""
    found = {}
    ahead = [(index, all_names(side.knowns[index]))]
    while ahead:
        standing, keys = ahead.pop()
        for _, (behind, inner) in waits_of(side.rows[standing]):
            pair = (behind, tuple([keys[number] for number in inner]))
            if pair not in found:
                found[pair] = True
                ahead.append(pair)
    return sorted(list(found))


def all_silent(side):
    """For each standing the ascending list of the pairs behind silent rows."""
    found = []
    for index, known in enumerate(side.knowns):
        found.append(sorted(set(behind_waits(side, index) + [(index, all_names(known))])))
    return found


def weak_row(side, silent, index):
    """The ascending list of the weak moves of a standing: pairs (ACTION, lists of pairs).

    There is one list, but for a take one for each name. silent is what all_silent returns.
    """
    found = {("wait",): [silent[index]]}
    for middle, keys in silent[index]:
        for action, rests in side.rows[middle]:
            if action[0] == "wait":
                continue
            names = names_passed(action, side.knowns[index])
            lists = found.setdefault(told_ahead(action, keys), [[] for _ in names])
            for place, name in enumerate(names):
                rest, inner = rests[rest_for(action, keys, name)]
                lists[place].extend(pairs_over(names_behind(keys, inner, name), silent[rest]))
    return [(action, [sorted(set(pairs)) for pairs in found[action]]) for action in sorted(list(found))]


def told_ahead(action, keys):
    """An action with the numbers that its names had ahead of a silent row; keys leads over the row."""
    return (action[0],) + tuple([keys[number] for number in action[1:]])


def names_passed(action, known):
    """The list of the numbers that may come in by an action of a standing with so many known names."""
    if action[0] == "take":
        return list(range(known + 1))
    return [known]


def rest_for(action, keys, name):
    """The number of the rest: a take of a name that is not there any more takes it as a stranger."""
    if action[0] != "take":
        return 0
    if name in keys:
        return keys.index(name)
    return len(keys)


def pairs_over(names, pairs):
    """The list of the pairs (standing, KEYS) with what KEYS leads to in names."""
    return [(standing, tuple([names[number] for number in keys])) for standing, keys in pairs]
