"""What the threads of a standing offer, and the rests behind it."""

from passednames.pieces import TESTS, WITH_NAMES, bound_names, own_names, parts_below
from passednames.threads import opened, settle


class Offer:
    """A send, take or wait, or a sends or takes of a row program, that a thread offers.

    thread is the place of the thread, path that of the part, row the numbers of its names;
    wanted has the triples (word, A, B) of the tests of unlike known numbers ahead of it.
    """

    def __init__(self, thread, path, part, row, wanted):
        self.thread = thread
        self.path = path
        self.part = part
        self.row = row
        self.wanted = wanted


def word_of(offer):
    """Whether it is a send, a take, a wait, or the one or the other of rows."""
    return offer.part[0]


def channel_of(offer):
    """The number on which an offer sends or takes."""
    return offer.row[offer.part[1]]


def sent_by(offer):
    """The tuple of the numbers that an offer sends: of a send there is one."""
    return tuple([offer.row[name] for name in own_names(offer.part)[1:]])


def stranger_of(standing):
    """The number that a name from outside gets, which no known or own name of the standing has."""
    known, own, _ = standing
    return known + own


def offers_of(table, standing):
    """The list of all that the threads offer where no test is decided against it."""
    known, _, threads = standing
    offers = []
    for thread, (path, numbers) in enumerate(threads):
        row = {name: number for name, number in zip(table.free[path], numbers)}
        for branch in branches_at(table, path):
            offer = offer_at(table, thread, branch, row, known)
            if offer is not None:
                offers.append(offer)
    return offers


def branches_at(table, path):
    """The list of the paths of the branches of a thread with this path."""
    part = table.parts[path]
    if part[0] == "one":
        return [path + indexes for indexes, _ in parts_below(part)]
    return [path]


def offer_at(table, thread, branch, row, known):
    """What a branch offers, None if a test ahead is decided against it."""
    path = branch
    wanted = []
    part = table.parts[path]
    while part[0] in TESTS:
        word, first, second, _ = part
        one, other = row[first], row[second]
        if one != other and one < known and other < known:
            wanted.append((word, min(one, other), max(one, other)))
        elif (one == other) != (word == "alike"):
            return None
        path = path + (3,)
        part = table.parts[path]
    return Offer(thread, path, part, row, tuple(wanted))


def action_of(offer, known):
    """The action of an offer that is done with the outside, None if this can not be."""
    if word_of(offer) == "wait":
        return ("wait",)
    if word_of(offer) in WITH_NAMES or channel_of(offer) >= known:
        return None
    if word_of(offer) == "take":
        return ("take", channel_of(offer))
    sent = sent_by(offer)
    if sent[0] >= known:
        return ("open", channel_of(offer))
    return ("send", channel_of(offer)) + sent


def meetings_of(offers, known):
    """The list of the triples (send, take, wanted): offers of two threads that meet if that holds."""
    meetings = []
    for send in [offer for offer in offers if word_of(offer) in ("send", "sends")]:
        for take in [offer for offer in offers if word_of(offer) in ("take", "takes")]:
            one, other = channel_of(send), channel_of(take)
            if send.thread == take.thread or not are_for_each_other(send.part, take.part):
                continue
            if one == other:
                meetings.append((send, take, ()))
            elif one < known and other < known:
                meetings.append((send, take, (("alike", min(one, other), max(one, other)),)))
    return meetings


def are_for_each_other(send, take):
    """Whether a send and a take pass one name, or a sends and a takes as many."""
    if send[0] == "send" or take[0] == "take":
        return send[0] == "send" and take[0] == "take"
    return len(send[2]) == len(take[2])


def rest_alone(table, standing, offer, taken):
    """The pair (STANDING, KEYS) behind an offer that no other thread meets.

    taken is the number that a take takes from the outside; other offers do not look at it.
    """
    shown = None
    if word_of(offer) == "take":
        shown = taken
    if word_of(offer) == "send":
        shown = sent_by(offer)[0]
    return rest_of(table, standing, {offer.thread: going_on(offer, (taken,))}, shown)


def rest_of_meeting(table, standing, send, take):
    """The pair (STANDING, KEYS) behind a send and a take that meet."""
    going = {send.thread: going_on(send, ()), take.thread: going_on(take, sent_by(send))}
    return rest_of(table, standing, going, None)


def going_on(offer, taken):
    """The pair (path, row) with which an offer's thread goes on; taken has what a take takes."""
    indexes, _ = parts_below(offer.part)[0]
    row = dict(offer.row)
    for name, number in zip(bound_names(offer.part), taken):
        row[name] = number
    return (offer.path + indexes, row)


def rest_of(table, standing, going, shown):
    """The pair (STANDING, KEYS) behind a step.

    going has (path, row) for the places of the threads that go on. shown is the number that passes
    between the threads and the outside, or None; if it was not known, it is so then, and KNOWN in KEYS.
    """
    known, _, threads = standing
    used = list(range(stranger_of(standing) + 1))
    behind = []
    for place, thread in enumerate(threads):
        if place in going:
            path, row = going[place]
            behind.extend(opened(table, path, row, used))
        else:
            behind.append(thread)
    rest, keys = settle(behind, [shown] + list(range(known)))
    return (rest, tuple([min(number, known) for number in keys]))
