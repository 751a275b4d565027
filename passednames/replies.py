"""What two standings that are joined can do, and the joint standings behind it."""

from passednames.conditions import join
from passednames.errors import TooGreat
from passednames.joint import how_many_names, joinings_of, joint_of, need_apart, need_open
from passednames.moving import moves_of
from passednames.names import AS_IS
from passednames.runs import names_behind
from passednames.tables import Table
from passednames.threads import first_standing

MOST_JOINT = 1500


class Game:
    """Two programs, their first joint standing, and the moves of their joined standings so far."""

    def __init__(self, tables, first):
        self.tables = tables
        self.first = first
        self.moved = {}


class Replies:
    """What can be done at a joint standing under one joining.

    many has how many moves each side has; matched the triples (move of the first, move of the
    other, joint standing behind), in the order of the moves.
    """

    def __init__(self, many, matched):
        self.many = many
        self.matched = matched


def game_of(one, other, apart):
    """Two programs, behind all checks, with their first joint standing."""
    tables = (Table(one), Table(other))
    need_open(tables)
    need_apart(apart)
    first, names = first_standing(tables[0], AS_IS)
    second, other_names = first_standing(tables[1], AS_IS)
    return Game(tables, joint_of(first, second, list(names), list(other_names), apart))


def moves_joined(game, side, standing, joining):
    """The pair (KEYS, moves) of a standing of one side with its known names joined."""
    place = (side, standing, joining)
    if place not in game.moved:
        rest, keys = join(standing, joining)
        game.moved[place] = (keys, moves_of(game.tables[side], rest))
    return game.moved[place]


def replies_at(game, joint, joining):
    """The replies at a joint standing under a joining; raises the errors of moves."""
    standing, other, names, _ = joint
    keys, moves = moves_joined(game, 0, standing, joining[:standing[0]])
    row = [joining[name] for name in names]
    other_keys, other_moves = moves_joined(game, 1, other, tuple([row.index(name) for name in row]))
    classes = [joining[key] for key in keys]
    other_classes = [row[key] for key in other_keys]
    matched = []
    for place, (action, rests) in enumerate(moves):
        told = action_in(action, classes)
        for other_place, (other_action, other_rests) in enumerate(other_moves):
            if told == action_in(other_action, other_classes):
                ends = ((classes, rests[-1]), (other_classes, other_rests[-1]))
                matched.append((place, other_place, joint_behind(joint, joining, action[0], ends)))
    return Replies((len(moves), len(other_moves)), matched)


def action_in(action, classes):
    """An action with the classes of its names."""
    return (action[0],) + tuple([classes[number] for number in action[1:]])


def joint_behind(joint, joining, word, ends):
    """The joint standing behind two moves; ends has for each side the classes ahead and the rest.

    A take's last rest is that of the stranger; other moves have but one. What is opened, or the
    stranger, is one name of both sides: it is called as no class is.
    """
    (classes, (standing, keys)), (other_classes, (other, other_keys)) = ends
    _, _, _, apart = joint
    came = how_many_names(joint)
    pairs = [(joining[one], joining[two]) for one, two in apart]
    if word == "open":
        pairs.extend([(name, came) for name in joining])
    behind = list(names_behind(classes, keys, came))
    return joint_of(standing, other, behind, list(names_behind(other_classes, other_keys, came)), pairs)


def behind_move(replies, side, move):
    """The list of the joint standings behind a move of one side and those of the other that match it."""
    return [matched[2] for matched in replies.matched if matched[side] == move]


def demands_in(replies):
    """What is asked for under one joining: that each move of either side has an answer that stays."""
    found = []
    for side in (0, 1):
        for move in range(replies.many[side]):
            found.append([(behind,) for behind in behind_move(replies, side, move)])
    return found


def demands_met(game):
    """A dict with the demands of each joint standing that is met, in the order in which they are found."""
    met = [game.first]
    demands = {game.first: []}
    done = 0
    while done < len(met):
        joint = met[done]
        for joining in joinings_of(joint):
            replies = replies_at(game, joint, joining)
            for _, _, behind in replies.matched:
                if behind not in demands:
                    if len(met) == MOST_JOINT:
                        raise TooGreat(MOST_JOINT)
                    demands[behind] = []
                    met.append(behind)
            demands[joint].extend(demands_in(replies))
        done += 1
    return demands
