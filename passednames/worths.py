"""Whether a row of a sentence holds at a standing.

Labels and worths are told so that none has to be thought up: the label of a known name is its number,
and worths that no known name has as its label are told by the numbers from KNOWN on, in the order in
which they come up. A state is (row, index of a standing, worths); it holds or not, whatever came ahead.
"""

from passednames.uses import cases_in


class Asked:
    """The rows of a sentence, the side of a program, and what has been found of its states.

    ways has for each state the list of the ways in which it can hold, each a list of pairs
    (truth, state); decided has whether it holds.
    """

    def __init__(self, side, rows):
        self.side = side
        self.rows = rows
        self.ways = {}
        self.decided = {}


def sentence_holds(side, sentence, given):
    """Whether a sentence holds of a program that is given so."""
    rows, (truth, row, names) = sentence
    worths = worths_over(side.first_names, [given[name] for name in names])
    return state_holds(Asked(side, rows), (row, 0, worths)) == truth


def worths_over(labels, worths):
    """The tuple of the worths as they are told, labels having that of each known number."""
    found = []
    others = {}
    for worth in worths:
        if worth in labels:
            found.append(labels.index(worth))
        else:
            found.append(len(labels) + others.setdefault(worth, len(others)))
    return tuple(found)


def state_holds(asked, first):
    """Whether a state holds; those on which it hangs are decided ahead of it."""
    ahead = [first]
    while ahead:
        needed = first_undecided(asked, ahead[-1])
        if needed is None:
            ahead.pop()
        else:
            ahead.append(needed)
    return asked.decided[first]


def first_undecided(asked, state):
    """The first state that must be decided ahead of this one; None once this one is decided.

    Ways that have failed, and what holds of a way, are taken off, so that they are not asked again.
    """
    if state not in asked.ways:
        asked.ways[state] = ways_of(asked, state)
    ways = asked.ways[state]
    while ways:
        way = ways[-1]
        while way and asked.decided.get(way[-1][1]) == way[-1][0]:
            way.pop()
        if not way:
            break
        if way[-1][1] not in asked.decided:
            return way[-1][1]
        ways.pop()
    asked.decided[state] = len(ways) > 0
    return None


def ways_of(asked, state):
    """The list of the ways in which a state can hold: one for each move that does what its row says."""
    row, index, worths = state
    _, action = asked.rows[row]
    wanted = (action[0],) + tuple([worths[name] for name in names_of(action)])
    found = []
    for done, rests in asked.side.rows[index]:
        if done == wanted:
            found.append([state_behind(asked, state, rests, case, use) for case, use in cases_in(action)])
    return found


def names_of(action):
    """The names of the row in an action: the one on which it is done, and the one that is sent."""
    if action[0] == "send":
        return action[1:3]
    if action[0] == "wait":
        return ()
    return action[1:2]


def state_behind(asked, state, rests, case, use):
    """The pair (truth, state) of a use behind a move of a state."""
    _, index, worths = state
    known = asked.side.knowns[index]
    # A worth that nothing here has: that of a name which comes in, unless it is the one of the case.
    fresh = max(worths + (known,)) + 1
    came = fresh if case is None else worths[case]
    # Only a take has more than one rest: one for each known number, the last for a stranger.
    rest, keys = rests[min(came, len(rests) - 1)]
    truth, row, names = use
    labels = [key if key < known else came for key in keys]
    everything = worths + (fresh,)
    return (truth, (row, rest, worths_over(labels, [everything[name] for name in names])))
