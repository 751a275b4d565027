"""Joining known names, and moves under conditions."""

from passednames.errors import BadJoining, BadParameter, TooGreat
from passednames.offers import action_of, meetings_of, offers_of, rest_alone, rest_of_meeting, stranger_of
from passednames.plain import are_from_zero, is_below, is_from_zero, is_row_of
from passednames.tables import Table
from passednames.threads import MOST_NAMES, checked_standing, need_small, settle

MOST_JOINED = 5


def need_joining(many, value):
    """Returns a joining of so many things."""
    if not is_below(many, MOST_NAMES + 1):
        raise BadParameter(many)
    if not is_joining(value) or len(value) != many:
        raise BadJoining(value)
    return value


def is_joining(value):
    """Whether this is a joining of any number of things."""
    if not are_from_zero(value):
        return False
    return all([first <= place and value[first] == first for place, first in enumerate(value)])


def all_joinings(many):
    """The ascending tuple of all joinings of so many things."""
    if not is_from_zero(many):
        raise BadParameter(many)
    if many > MOST_JOINED:
        raise TooGreat(MOST_JOINED)
    found = [()]
    for place in range(many):
        found = [row + (first,) for row in found for first in firsts_of(row) + [place]]
    return tuple(found)


def firsts_of(joining):
    """The ascending list of the things that are the first ones of their blocks."""
    return [place for place, first in enumerate(joining) if first == place]


def joined(program, standing, joining):
    """The pair (STANDING, KEYS) of the standing with known names joined."""
    known, _, _ = checked_standing(Table(program), standing)
    return join(standing, need_joining(known, joining))


def join(standing, joining):
    """The pair (STANDING, KEYS) of a standing with known names joined; both have been checked."""
    known, _, threads = standing
    rows = []
    for path, numbers in threads:
        rows.append((path, tuple([joining[n] if n < known else n for n in numbers])))
    return settle(rows, joining)


def holds_joined(condition, joining):
    """Whether a condition holds where these things are joined."""
    if not is_joining(joining):
        raise BadJoining(joining)
    if not is_condition(condition, len(joining)):
        raise BadParameter(condition)
    return all([(joining[one] == joining[other]) == (word == "alike") for word, one, other in condition])


def is_condition(value, many):
    """Whether this is a condition over so many things."""
    if not isinstance(value, tuple) or not all([is_wish(item, many) for item in value]):
        return False
    return list(value) == sorted(set(value))


def is_wish(value, many):
    """Whether this is a triple (word, A, B) over so many things, A below B."""
    if not is_row_of(value, 3) or not isinstance(value[0], str):
        return False
    word, one, other = value
    return word in ("alike", "unlike") and is_below(other, many) and is_below(one, other)


def cases(program, standing):
    """The ascending tuple of the unlike triples (CONDITION, ACTION, (STANDING, KEYS))."""
    table = Table(program)
    checked_standing(table, standing)
    known = standing[0]
    offers = offers_of(table, standing)
    found = cases_alone(table, standing, offers)
    for send, take, wanted in meetings_of(offers, known):
        condition = condition_of(send.wanted + take.wanted + wanted, known)
        if condition is not None:
            found.append((condition, ("wait",), rest_of_meeting(table, standing, send, take)))
    need_small([case[2][0] for case in found])
    return tuple(sorted(set(found)))


def cases_alone(table, standing, offers):
    """The list of the cases of what one thread does, with the outside or alone."""
    known = standing[0]
    found = []
    for offer in offers:
        action = action_of(offer, known)
        condition = condition_of(offer.wanted, known)
        if action is not None and condition is not None:
            found.append((condition, action, rest_alone(table, standing, offer, stranger_of(standing))))
    return found


def condition_of(wanted, known):
    """The condition in its one form, None if it holds at no joining of the known names."""
    firsts = joined_firsts(wanted, known)
    found = [("alike", first, place) for place, first in enumerate(firsts) if first != place]
    for word, one, other in wanted:
        low, high = min(firsts[one], firsts[other]), max(firsts[one], firsts[other])
        if word == "unlike" and low == high:
            return None
        if word == "unlike":
            found.append((word, low, high))
    return tuple(sorted(set(found)))


def joined_firsts(wanted, known):
    """The list with, for each known number, the least one of its block of those that must be alike."""
    firsts = list(range(known))
    for word, one, other in wanted:
        if word == "alike":
            low, high = min(firsts[one], firsts[other]), max(firsts[one], firsts[other])
            firsts = [low if first == high else first for first in firsts]
    return firsts
