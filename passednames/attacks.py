"""Attacks: moves that the other side can not answer in the end."""

from passednames.conditions import is_joining
from passednames.joint import joinings_of
from passednames.plain import is_below, is_row_of
from passednames.replies import behind_move, replies_at


def attacks_on(game, gone):
    """A dict with an attack on each joint standing that goes, no deeper than the round in which it goes."""
    attacks = {}
    sizes = {}
    for joint in sorted(list(gone), key=lambda each: gone[each]):
        attacks[joint], sizes[joint] = least_attack(game, joint, gone, attacks, sizes)
    return attacks


def least_attack(game, joint, gone, attacks, sizes):
    """The pair (attack, its size): the least one whose answers all go in rounds ahead."""
    least = None
    for joining in joinings_of(joint):
        replies = replies_at(game, joint, joining)
        for side in (0, 1):
            for move in range(replies.many[side]):
                behind = behind_move(replies, side, move)
                if not all([rest in gone and gone[rest] < gone[joint] for rest in behind]):
                    continue
                size = 1 + sum([sizes[rest] for rest in behind])
                if least is None or size < least[1]:
                    least = ((joining, side, move, tuple([attacks[rest] for rest in behind])), size)
    return least


def is_attack(game, value):
    """Whether a value of any kind is an attack on the first joint standing."""
    ahead = [(game.first, value)]
    while ahead:
        joint, attack = ahead.pop()
        if not is_row_of(attack, 4):
            return False
        joining, side, move, answers = attack
        if not is_joining_that_may_be(joint, joining) or not is_below(side, 2):
            return False
        replies = replies_at(game, joint, joining)
        if not is_below(move, replies.many[side]):
            return False
        behind = behind_move(replies, side, move)
        if not is_row_of(answers, len(behind)):
            return False
        # The last of the row is looked at next, and answers are looked at from the left.
        ahead.extend(list(zip(behind, answers))[::-1])
    return True


def is_joining_that_may_be(joint, value):
    """Whether this is a joining of the names of a joint standing that may be; TooGreat if there are too many."""
    joinings = joinings_of(joint)
    return is_joining(value) and value in joinings
