"""Standings and moves once more, as directly from the document as can be, to compare with the program.

A thread is (path, names), names a dict; what stands for a name may be any value that can be a key.
"""

import itertools

from passednames.errors import TooGreat
from tests.samples import STOP

LATER = {"send": 3, "take": 3, "alike": 3, "unlike": 3, "wait": 1, "new": 2, "sends": 3, "takes": 3}


def at(program, path):
    """What a path leads to."""
    for place in path:
        program = program[place]
    return program


def free(piece):
    """The set of the free names of a piece."""
    word = piece[0]
    if word in ("one", "beside"):
        return set().union(*[free(part) for part in piece[1]])
    if word == "call":
        return set(piece[2])
    below = free(piece[-1])
    if word == "take":
        return {piece[1]} | (below - {piece[2]})
    if word == "takes":
        return {piece[1]} | (below - set(piece[2]))
    if word == "sends":
        return {piece[1], *piece[2]} | below
    if word == "new":
        return below - {piece[1]}
    if word == "wait":
        return below
    return {piece[1], piece[2]} | below


def threads_at(program, path, names, fresh):
    """The threads of a part."""
    piece = at(program, path)
    word = piece[0]
    if piece == STOP:
        return []
    if word == "beside":
        return [thread for place in range(len(piece[1]))
                for thread in threads_at(program, (*path, 1, place), names, fresh)]
    if word == "new":
        return threads_at(program, (*path, 2), {**names, piece[1]: ("new", next(fresh))}, fresh)
    if word == "call":
        params = program[0][piece[1]][0]
        return threads_at(program, (0, piece[1], 1), {p: names[n] for p, n in zip(params, piece[2])}, fresh)
    return [(path, {name: names[name] for name in free(piece)})]


def settle(threads, known):
    """The pair (STANDING, what the known names were)."""
    seen = []
    for _, names in threads:
        for name in sorted(names):
            if names[name] not in seen:
                seen.append(names[name])
    keys = [value for value in seen if value in known]
    own = [value for value in seen if value not in known]
    number = {value: place for place, value in enumerate(keys + own)}
    rows = tuple((path, tuple(number[names[name]] for name in sorted(names))) for path, names in threads)
    return (len(keys), len(own), rows), keys


def bounded(standings):
    """Raises TooGreat as it is told of several rests."""
    for known, own, threads in standings:
        if len(threads) > 8:
            raise TooGreat(8)
    for known, own, threads in standings:
        if known + own > 12:
            raise TooGreat(12)


def first(program, given):
    """What start returns."""
    threads = threads_at(program, (1,), dict(enumerate(given)), itertools.count())
    standing, keys = settle(threads, set(given))
    bounded([standing])
    return standing, tuple(keys)


def offers(program, standing):
    """All (place of the thread, path of the send, take or wait, names)."""
    found = []
    for place, (path, numbers) in enumerate(standing[2]):
        piece = at(program, path)
        names = dict(zip(sorted(free(piece)), numbers))
        for branch in ([path] if piece[0] != "one" else [(*path, 1, i) for i in range(len(piece[1]))]):
            word = at(program, branch)[0]
            while word in ("alike", "unlike"):
                a, b = at(program, branch)[1:3]
                if (names[a] == names[b]) != (word == "alike"):
                    break
                branch = (*branch, 3)
                word = at(program, branch)[0]
            else:
                found.append((place, branch, names))
    return found


def moves(program, standing):
    """What moves returns."""
    known, own, _ = standing
    outside = set(range(known))
    found = []

    def rest(going, came=None):
        fresh = itertools.count()
        threads = []
        for place, (path, numbers) in enumerate(standing[2]):
            if place in going:
                part, names = going[place]
                threads += threads_at(program, (*part, LATER[at(program, part)[0]]), names, fresh)
            else:
                threads.append((path, dict(zip(sorted(free(at(program, path))), numbers))))
        there, keys = settle(threads, outside if came is None else outside | {came})
        return there, tuple(known if came is not None and key == came else key for key in keys)

    everything = offers(program, standing)
    for place, path, names in everything:
        piece = at(program, path)
        if piece[0] == "wait":
            found.append((("wait",), (rest({place: (path, names)}),)))
            continue
        if piece[0] in ("sends", "takes"):
            continue
        a, b = names[piece[1]], names.get(piece[2])
        if piece[0] == "send" and a in outside and b in outside:
            found.append((("send", a, b), (rest({place: (path, names)}),)))
        elif piece[0] == "send" and a in outside:
            found.append((("open", a), (rest({place: (path, names)}, b),)))
        elif piece[0] == "take" and a in outside:
            rests = [rest({place: (path, {**names, piece[2]: c})}) for c in range(known)]
            rests.append(rest({place: (path, {**names, piece[2]: "stranger"})}, "stranger"))
            found.append((("take", a), tuple(rests)))
        for other, path2, names2 in everything:
            piece2 = at(program, path2)
            if other != place and piece[0] == "send" and piece2[0] == "take" and names2[piece2[1]] == a:
                going = {place: (path, names), other: (path2, {**names2, piece2[2]: b})}
                found.append((("wait",), (rest(going),)))
    for place, path, names in everything:
        for other, path2, names2 in everything:
            piece, piece2 = at(program, path), at(program, path2)
            if other == place or (piece[0], piece2[0]) != ("sends", "takes") or names[piece[1]] != names2[piece2[1]]:
                continue
            if len(piece[2]) == len(piece2[2]):
                passed = {x: names[b] for x, b in zip(piece2[2], piece[2])}
                found.append((("wait",), (rest({place: (path, names), other: (path2, {**names2, **passed})}),)))
    bounded([there for _, rests in found for there, _ in rests])
    return tuple(sorted(set(found)))


def graph(program, given):
    """What graph returns."""
    standings = [first(program, given)[0]]
    rows = []
    for standing in standings:
        row = moves(program, standing)
        for _, rests in row:
            for there, _ in rests:
                if there not in standings:
                    if len(standings) == 60:
                        raise TooGreat(60)
                    standings.append(there)
        rows.append(row)
    return tuple(standings), tuple(
        tuple((action, tuple((standings.index(there), keys) for there, keys in rests)) for action, rests in row)
        for row in rows)


def outcome(asked, *args):
    """What a call returns, or how great the number was that it refused."""
    try:
        return asked(*args)
    except TooGreat as raised:
        return ("too great", raised.most)
