"""New names that are used once, and meetings on them, which nothing else can disturb."""

from passednames.graphs import graph_from
from passednames.moving import holds_unjoined
from passednames.names import AS_IS, need_given
from passednames.offers import channel_of, offers_of, rest_of_meeting
from passednames.pieces import TESTS
from passednames.sides import all_names, waits_of
from passednames.sources import Flow
from passednames.tables import Table
from passednames.tellings import least_closed, sources_of
from passednames.threads import checked_standing, first_standing, need_small


def lone_news(program, given=AS_IS):
    """The ascending tuple of the triples (PATH, SEND, TAKE) of the news in MAIN that are used once."""
    table = Table(program)
    return lone_in(table, need_given(given))


def lone_in(table, given):
    """The lone news of a program that has been checked."""
    flow = Flow(table, given)
    telling = least_closed(flow)
    found = []
    for source in flow.sources:
        if source[0] == "new" and source[1][0] == 1 and source not in telling.known:
            send = only_on(table, telling, flow.sends, source)
            take = only_on(table, telling, flow.takes, source)
            if send is not None and take is not None:
                found.append((source[1], send, take))
    return tuple(found)


def only_on(table, telling, steps, source):
    """The path of the only one of these sends or takes on a source, None unless it is a lone one in MAIN."""
    uses = [(path, channel) for path, channel, _ in steps if source in sources_of(telling, channel)]
    if len(uses) != 1:
        return None
    path, channel = uses[0]
    if path[0] != 1 or not stands_alone(table, path) or len(sources_of(telling, channel)) != 1:
        return None
    return path


def stands_alone(table, path):
    """Whether, out through its tests, a send or take is no branch of a one with two or more branches."""
    while path[:-1] in table.parts and table.parts[path[:-1]][0] in TESTS:
        path = path[:-1]
    # The path of a branch of a one has two indexes more than that of the one.
    around = table.parts.get(path[:-2])
    return around is None or around[0] != "one" or len(around[1]) < 2


def lone_steps(program, standing, given=AS_IS):
    """The ascending tuple of the triples (I, J, (STANDING, KEYS)) of the meetings on names used once."""
    table = Table(program)
    need_given(given)
    checked_standing(table, standing)
    return steps_at(table, lone_in(table, given), standing)


def steps_at(table, lone, standing):
    """The lone steps of a standing; lone are the lone news of its program."""
    offers = [offer for offer in offers_of(table, standing) if holds_unjoined(offer.wanted)]
    found = []
    for _, send_path, take_path in lone:
        for send in [offer for offer in offers if offer.path == send_path]:
            for take in [offer for offer in offers if offer.path == take_path]:
                if channel_of(send) == channel_of(take):
                    found.append((send.thread, take.thread, rest_of_meeting(table, standing, send, take)))
    need_small([rest for _, _, (rest, _) in found])
    return tuple(sorted(found))


def calmed(program, standing, given=AS_IS):
    """The triple (STANDING, KEYS, COUNT) behind all lone steps, the first one always first."""
    table = Table(program)
    need_given(given)
    checked_standing(table, standing)
    lone = lone_in(table, given)
    keys = all_names(standing[0])
    count = 0
    steps = steps_at(table, lone, standing)
    while steps:
        _, _, (standing, inner) = steps[0]
        keys = tuple([keys[number] for number in inner])
        count += 1
        steps = steps_at(table, lone, standing)
    return (standing, keys, count)


def lone_waits(program, given=AS_IS):
    """The ascending tuple of the pairs (I, M) of the waits that do lone steps."""
    table = Table(program)
    first, _ = first_standing(table, need_given(given))
    standings, rows = graph_from(table, first)
    lone = lone_in(table, given)
    found = []
    for index, standing in enumerate(standings):
        rests = [rest for _, _, rest in steps_at(table, lone, standing)]
        waits = waits_of(rows[index])
        found.extend([(index, move) for move, (behind, keys) in waits if (standings[behind], keys) in rests])
    return tuple(found)
