"""Whether sentences hold once more, with labels as the document tells them; and sentences that come of a number."""

from tests import oracle


class Labelled:
    """A program with its graph, to ask for rows at standings with labels."""

    def __init__(self, program, given):
        _, self.rows = oracle.graph(program, given)
        self.labels = list(oracle.first(program, given)[1])

    def holds(self, sentence, given):
        rows, (truth, number, names) = sentence
        return self.row(rows, number, 0, self.labels, [given[name] for name in names]) == truth

    def row(self, rows, number, index, labels, worths):
        """Whether a row holds, its names having these worths."""
        _, action = rows[number]
        word = action[0]
        fresh = max([100, *labels, *worths]) + 7
        for done, rests in self.rows[index]:
            if done[0] != word:
                continue
            if any(labels[a] != worths[b] for a, b in zip(done[1:], action[1:])):
                continue
            if word == "take":
                told = all(self.taken(rows, rests, labels, worths, case, use, fresh) for case, use in action[2])
            else:
                told = all(self.use(rows, use, rests[0], labels + [fresh], worths + [fresh]) for use in action[-1])
            if told:
                return True
        return False

    def taken(self, rows, rests, labels, worths, case, use, fresh):
        """Whether a use holds behind a take, for a case."""
        if case is None:
            return self.use(rows, use, rests[-1], labels + [fresh], worths + [fresh])
        if worths[case] in labels:
            return self.use(rows, use, rests[labels.index(worths[case])], labels + [None], worths)
        return self.use(rows, use, rests[-1], labels + [worths[case]], worths)

    def use(self, rows, use, rest, labels, worths):
        """Whether a use holds at a rest."""
        truth, number, names = use
        index, keys = rest
        return self.row(rows, number, index, [labels[key] for key in keys], [worths[name] for name in names]) == truth


def random_sentence(chance, many, most=4, early=False):
    """A sentence of so many rows."""
    rows = []

    def use(names, below):
        number = chance.randrange(below)
        wanted = rows[number][0]
        return (chance.random() < 0.6, number, tuple(chance.choice(names) for _ in range(wanted)))

    for place in range(many):
        count = chance.randrange(1, most)
        names = list(range(count))

        def uses(names):
            if place == 0:
                return ()
            # A row without names can be used where there is none.
            return tuple(use(names, place) for _ in range(chance.randrange(3)))

        word = chance.choice(("wait", "send", "open", "take", "take"))
        if word == "wait":
            action = ("wait", uses(names))
        elif word == "send":
            action = ("send", chance.choice(names), chance.choice(names), uses(names))
        elif word == "open":
            action = ("open", chance.choice(names), uses(names + [count]))
        else:
            cases = [chance.choice([None, *names])] * 3 if early else [chance.choice([None, *names]) for _ in range(3)]
            pairs = []
            for case in cases[:chance.randrange(4) if place else 0]:
                pairs.append((case, use(names + [count] if case is None else names, place)))
            action = ("take", chance.choice(names), tuple(pairs))
        rows.append((count, action))
    return (tuple(rows), use(list(range(4)), many))


def depth(sentence):
    """How deep a sentence is."""
    rows, (_, number, _) = sentence

    def row_depth(number):
        action = rows[number][1]
        uses = [use for _, use in action[2]] if action[0] == "take" else action[-1]
        return 1 + max([row_depth(use[1]) for use in uses], default=0)

    return row_depth(number)
