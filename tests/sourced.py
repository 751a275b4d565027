"""Tellings, uses and lone news once more, with sets; and runs in which each name has its source."""

import itertools

from tests import oracle
from tests.samples import STOP

WORLD = ("world",)


class Told:
    """What counts of a program: all calls, sends and takes with the origins of their names."""

    def __init__(self, program, given):
        self.program = program
        self.calls, self.sends, self.takes, self.news, self.params = [], [], [], [], []
        self.around = {}
        self.given = {("given", given[name]) for name in oracle.free(program[1])}
        self.reached = set()
        self.walk(program[1], (1,), {name: ("given", given[name]) for name in oracle.free(program[1])}, None)
        self.sources = {WORLD, *self.given, *[("new", path) for path in self.news]}
        self.holders = {("take", path) for path, _, _ in self.takes} | set(self.params)

    def walk(self, piece, path, scope, around):
        self.around[path] = around
        word = piece[0]
        if word in ("one", "beside"):
            for place, part in enumerate(piece[1]):
                self.walk(part, (*path, 1, place), scope, path)
            return
        if word == "call":
            self.calls += [(("param", piece[1], place), scope[name]) for place, name in enumerate(piece[2])]
            if piece[1] not in self.reached:
                self.reached.add(piece[1])
                params, body = self.program[0][piece[1]]
                self.params += [("param", piece[1], place) for place in range(len(params))]
                self.walk(body, (0, piece[1], 1), {param: ("param", piece[1], place) for place, param in enumerate(params)}, None)
            return
        if word == "send":
            self.sends.append((path, scope[piece[1]], scope[piece[2]]))
        if word == "take":
            self.takes.append((path, scope[piece[1]], ("take", path)))
            scope = {**scope, piece[2]: ("take", path)}
        if word == "new":
            self.news.append(path)
            scope = {**scope, piece[1]: ("new", path)}
        self.walk(piece[-1], (*path, oracle.LATER[word]), scope, path)

    def least(self):
        """The least closed telling, as dicts of sets."""
        holds = {holder: set() for holder in self.holders}
        carries = {source: set() for source in self.sources}
        known = {WORLD, *self.given}
        while True:
            before = repr((sorted(map(repr, holds.items())), sum(map(len, holds.values())), sum(map(len, carries.values())), len(known)))
            for source in list(known):
                carries[source] |= known
                known |= carries[source]
            of = lambda origin: set(holds.get(origin, {origin}))
            for holder, origin in self.calls:
                holds[holder] |= of(origin)
            for _, channel, sent in self.sends:
                for source in of(channel):
                    carries[source] |= of(sent)
            for _, channel, holder in self.takes:
                for source in of(channel):
                    holds[holder] |= carries[source]
            if before == repr((sorted(map(repr, holds.items())), sum(map(len, holds.values())), sum(map(len, carries.values())), len(known))):
                return holds, carries, known

    def closed(self, holds, carries, known):
        """Whether a telling, as dicts of sets, is closed."""
        of = lambda origin: set(holds.get(origin, {origin}))
        return all([
            {WORLD, *self.given} <= known, all(carries[source] == known for source in known),
            all(of(origin) <= holds[holder] for holder, origin in self.calls),
            all(of(sent) <= carries[source] for _, channel, sent in self.sends for source in of(channel)),
            all(carries[source] <= holds[holder] for _, channel, holder in self.takes for source in of(channel))])

    def lone_news(self):
        """What lone_news returns."""
        holds, _, known = self.least()
        of = lambda origin: set(holds.get(origin, {origin}))
        found = []
        for path in sorted(self.news):
            source = ("new", path)
            sends = [(at, channel) for at, channel, _ in self.sends if source in of(channel)]
            takes = [(at, channel) for at, channel, _ in self.takes if source in of(channel)]
            if path[0] != 1 or source in known or len(sends) != 1 or len(takes) != 1:
                continue
            if all(at[0] == 1 and self.alone(at) and of(channel) == {source} for at, channel in sends + takes):
                found.append((path, sends[0][0], takes[0][0]))
        return tuple(found)

    def alone(self, path):
        """Whether a send or take stands alone."""
        out = self.around[path]
        while out is not None and oracle.at(self.program, out)[0] in ("alike", "unlike"):
            out = self.around[out]
        return out is None or oracle.at(self.program, out)[0] != "one" or len(oracle.at(self.program, out)[1]) < 2


def told(holds, carries, known):
    """A telling of dicts of sets as a tuple."""
    return (tuple((holder, tuple(sorted(holds[holder]))) for holder in sorted(holds)),
            tuple((source, tuple(sorted(carries[source]))) for source in sorted(carries)), tuple(sorted(known)))


def in_sets(telling):
    """A telling that is one as dicts of sets."""
    return ({holder: set(sources) for holder, sources in telling[0]}, {source: set(sources) for source, sources in telling[1]}, set(telling[2]))


class SourcedRun:
    """A run in which each name is a pair (source, number); tells what happens to a watcher."""

    def __init__(self, program, given, watcher):
        self.program, self.watcher, self.fresh = program, watcher, itertools.count()
        names = {name: (("given", given[name]), given[name]) for name in oracle.free(program[1])}
        self.known = set(names.values())
        self.threads = self.opened(program[1], (1,), names)
        self.opened_names = set()

    def opened(self, piece, path, names):
        word = piece[0]
        if piece == STOP:
            return []
        if word == "beside":
            return [thread for place, part in enumerate(piece[1]) for thread in self.opened(part, (*path, 1, place), names)]
        if word == "new":
            return self.opened(piece[2], (*path, 2), {**names, piece[1]: (("new", path), next(self.fresh))})
        if word == "call":
            params, body = self.program[0][piece[1]]
            for place, name in enumerate(piece[2]):
                self.watcher("put in", ("param", piece[1], place), names[name][0])
            return self.opened(body, (0, piece[1], 1), {param: names[name] for param, name in zip(params, piece[2])})
        return [(path, names)]

    def offers(self):
        found = []
        for place, (path, names) in enumerate(self.threads):
            piece = oracle.at(self.program, path)
            for branch in ([path] if piece[0] != "one" else [(*path, 1, at) for at in range(len(piece[1]))]):
                part = oracle.at(self.program, branch)
                while part[0] in ("alike", "unlike") and (names[part[1]] == names[part[2]]) == (part[0] == "alike"):
                    branch, part = (*branch, 3), part[3]
                if part[0] not in ("alike", "unlike"):
                    found.append((place, branch, part, names))
        return found

    def go_on(self, going):
        threads = []
        for place, thread in enumerate(self.threads):
            if place in going:
                path, part, names = going[place]
                threads += self.opened(part[-1], (*path, oracle.LATER[part[0]]), names)
            else:
                threads.append(thread)
        self.threads = threads

    def step(self, chance):
        """Makes a step that is drawn; whether there was one."""
        offers = self.offers()
        steps = []
        for place, path, part, names in offers:
            if part[0] == "wait" or names[part[1]] in self.known:
                steps.append((place, path, part, names, None))
            for other in offers:
                if part[0] == "send" and other[2][0] == "take" and other[0] != place and names[part[1]] == other[3][other[2][1]]:
                    steps.append((place, path, part, names, other))
        if not steps:
            return False
        place, path, part, names, other = chance.choice(steps)
        going = {place: (path, part, names)}
        if part[0] == "send":
            channel, sent = names[part[1]], names[part[2]]
            self.watcher("sent", channel[0], sent[0])
            if other is None:
                self.known.add(sent)
                self.watcher("known", None, sent[0])
            else:
                self.watcher("put in", ("take", other[1]), sent[0])
                going[other[0]] = (other[1], other[2], {**other[3], other[2][2]: sent})
        elif part[0] == "take":
            came = chance.choice(sorted(self.known) + [(WORLD, next(self.fresh))] * 2)
            self.known.add(came)
            self.watcher("put in", ("take", path), came[0])
            going[place] = (path, part, {**names, part[2]: came})
        self.go_on(going)
        return True
