"""The moves of a standing."""

from passednames.offers import action_of, meetings_of, offers_of, rest_alone, rest_of_meeting, stranger_of
from passednames.tables import Table
from passednames.threads import checked_standing, need_small


def moves(program, standing):
    """The ascending tuple of the unlike moves (ACTION, RESTS) of a standing."""
    table = Table(program)
    return moves_of(table, checked_standing(table, standing))


def actions(program, standing):
    """The ascending tuple of the unlike actions of the moves of a standing."""
    return tuple(sorted(set([action for action, _ in moves(program, standing)])))


def is_stuck(program, standing):
    """Whether a standing has no move."""
    return not moves(program, standing)


def moves_of(table, standing):
    """The moves of a standing that has been checked."""
    known = standing[0]
    offers = [offer for offer in offers_of(table, standing) if holds_unjoined(offer.wanted)]
    found = []
    for offer in offers:
        action = action_of(offer, known)
        if action is not None:
            found.append((action, rests_of(table, standing, offer, action)))
    for send, take, wanted in meetings_of(offers, known):
        if holds_unjoined(wanted):
            found.append((("wait",), (rest_of_meeting(table, standing, send, take),)))
    need_small(standings_behind(found))
    return tuple(sorted(set(found)))


def holds_unjoined(wanted):
    """Whether tests of unlike known numbers are passed as long as none of them are joined."""
    return all([wish[0] == "unlike" for wish in wanted])


def rests_of(table, standing, offer, action):
    """The tuple of the rests of an offer that is done by this action."""
    taken = [None]
    if action[0] == "take":
        taken = list(range(standing[0])) + [stranger_of(standing)]
    return tuple([rest_alone(table, standing, offer, number) for number in taken])


def standings_behind(row):
    """The list of the standings in the rests of a row of moves, in their order."""
    found = []
    for _, rests in row:
        found.extend([standing for standing, _ in rests])
    return found
