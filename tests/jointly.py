"""Open likeness once more, as directly from the document as can be, to compare with the program.

Names of a joint standing are labels of any kind; classes of names are frozensets of labels.
"""

import itertools

from tests import oracle


def partitions(labels):
    """All partitions of a list, as lists of lists in the order of the labels."""
    if not labels:
        yield []
        return
    for smaller in partitions(labels[:-1]):
        for place in range(len(smaller)):
            yield smaller[:place] + [smaller[place] + labels[-1:]] + smaller[place + 1:]
        yield smaller + [labels[-1:]]


def told(joint):
    """A joint standing as the program tells it, and its labels in the order of their numbers."""
    s, t, names, others, apart = joint
    order = list(names) + [label for label in others if label not in names]
    unlike = sorted({tuple(sorted(order.index(label) for label in pair)) for pair in apart})
    return (s, t, tuple(order.index(label) for label in others), tuple(unlike)), order


def read(value):
    """A joint standing that is told, with its numbers as labels."""
    s, t, names, unlike = value
    return (s, t, tuple(range(s[0])), names, frozenset(frozenset(pair) for pair in unlike))


def joined(program, standing, labels, blocks):
    """The joined standing and the classes of its known names."""
    block_of = {label: frozenset(block) for block in blocks for label in block}
    known = {number: block_of[label] for number, label in enumerate(labels)}
    threads = []
    for path, numbers in standing[2]:
        free = sorted(oracle.free(oracle.at(program, path)))
        threads.append((path, {name: known.get(number, ("own", number)) for name, number in zip(free, numbers)}))
    return oracle.settle(threads, set(block_of.values()))


def may_be(blocks, apart):
    """Whether no block has two names that stay unlike."""
    return not any(pair <= set(block) for pair in apart for block in blocks)


def replies(programs, joint):
    """For each partition that may be: (blocks, moves of S, moves of T, dict of the joint standings behind)."""
    s, t, names, others, apart = joint
    _, order = told(joint)
    found = []
    for blocks in sorted(partitions(order), key=lambda blocks: numbers_of(blocks, order)):
        if not may_be(blocks, apart):
            continue
        left, classes = joined(programs[0], s, names, blocks)
        right, other_classes = joined(programs[1], t, others, blocks)
        moves, answers = oracle.moves(programs[0], left), oracle.moves(programs[1], right)
        table = {}
        for v, (action, rests) in enumerate(moves):
            for w, (other, backs) in enumerate(answers):
                if in_classes(action, classes) == in_classes(other, other_classes):
                    table[v, w] = behind(joint, blocks, action, (classes, rests[-1]), (other_classes, backs[-1]))
        found.append((numbers_of(blocks, order), moves, answers, table))
    return found


def numbers_of(blocks, order):
    """The joining that is this partition."""
    return tuple(min(order.index(label) for block in blocks if each in block for label in block) for each in order)


def in_classes(action, classes):
    """An action with classes of names."""
    return (action[0], *[classes[number] for number in action[1:]])


def behind(joint, blocks, action, one, other):
    """The joint standing behind two moves."""
    (classes, (s, keys)), (other_classes, (t, other_keys)) = one, other
    names = tuple("new" if key == len(classes) else classes[key] for key in keys)
    others = tuple("new" if key == len(other_classes) else other_classes[key] for key in other_keys)
    every = [frozenset(block) for block in blocks]
    class_of = {label: block for block in every for label in block}
    apart = {frozenset(class_of[label] for label in pair) for pair in joint[4]}
    if action[0] == "open":
        apart |= {frozenset(("new", block)) for block in every}
    there = set(names) | set(others)
    return (s, t, names, others, frozenset(pair for pair in apart if pair <= there))


def first(programs, apart=()):
    """The first joint standing."""
    (s, names), (t, others) = [oracle.first(program, tuple(range(10))) for program in programs]
    there = set(names) | set(others)
    return (s, t, names, others, frozenset(frozenset(pair) for pair in apart if set(pair) <= there))


def met(programs, start):
    """A dict from each met joint standing, as the program tells it, to its replies."""
    found = {}
    ahead = [told(start)[0]]
    while ahead:
        value = ahead.pop()
        if value in found:
            continue
        found[value] = [(joining, moves, answers, {pair: told(rest)[0] for pair, rest in table.items()})
                        for joining, moves, answers, table in replies(programs, read(value))]
        ahead += [rest for _, _, _, table in found[value] for rest in table.values()]
    return found


def answered(row, held):
    """Whether all moves at all joinings are answered with what is held."""
    for _, moves, answers, table in row:
        good = {pair for pair, rest in table.items() if rest in held}
        if {v for v, _ in good} != set(range(len(moves))) or {w for _, w in good} != set(range(len(answers))):
            return False
    return True


def rounds(found):
    """The pair (set of what always stays, dict of the rounds in which the others go)."""
    held = set(found)
    gone = {}
    for number in itertools.count(1):
        going = {value for value in held if not answered(found[value], held)}
        if not going:
            return held, gone
        gone.update({value: number for value in going})
        held -= going


def is_attack(found, value, attack):
    """Whether an attack, its parts being of the right kinds, is one; and how deep it is."""
    joining, side, move, answers = attack
    for told_joining, moves, others, table in found[value]:
        if told_joining == joining:
            rests = [rest for pair, rest in sorted(table.items()) if pair[side] == move]
            good = move < len((moves, others)[side]) and len(rests) == len(answers)
            parts = [is_attack(found, rest, inner) for rest, inner in zip(rests, answers)] if good else []
            return good and all(part[0] for part in parts), 1 + max([part[1] for part in parts], default=0)
    return False, 0
