"""Tellings: which sources each holder may have, each source may carry, and the world may know."""

from passednames.plain import is_row_of
from passednames.sources import WORLD, is_holder, is_source


class Telling:
    """Dicts of the sources that each holder has, that each source carries, and that are known."""

    def __init__(self, holds, carries, known):
        self.holds = holds
        self.carries = carries
        self.known = known


def least_closed(flow):
    """The closed telling whose sources are within those of each other one."""
    known = {source: True for source in flow.given + [WORLD]}
    telling = Telling({holder: {} for holder in flow.holders}, {source: {} for source in flow.sources}, known)
    lacking = lacking_in(flow, telling)
    while lacking:
        for sources, source in lacking:
            sources[source] = True
        lacking = lacking_in(flow, telling)
    return telling


def lacking_in(flow, telling):
    """The list of the pairs (dict, source that is to be in it and is not)."""
    found = []
    for sources, wanted in wanted_of_known(telling) + wanted_of_names(flow, telling):
        found.extend([(sources, source) for source in wanted if source not in sources])
    return found


def wanted_of_known(telling):
    """The list of the pairs (dict, sources that are to be in it) that what the world knows asks for."""
    found = []
    for source in telling.known:
        found.append((telling.carries[source], list(telling.known)))
        found.append((telling.known, list(telling.carries[source])))
    return found


def wanted_of_names(flow, telling):
    """The list of the pairs (dict, sources that are to be in it) that calls, sends and takes ask for."""
    found = [(telling.holds[holder], sources_of(telling, origin)) for holder, origin in flow.calls]
    for _, channel, sent in flow.sends:
        found.extend([(telling.carries[source], sources_of(telling, sent)) for source in sources_of(telling, channel)])
    for _, channel, holder in flow.takes:
        taken = [list(telling.carries[source]) for source in sources_of(telling, channel)]
        found.extend([(telling.holds[holder], sources) for sources in taken])
    return found


def sources_of(telling, origin):
    """The list of the sources that a name of this origin may have."""
    if origin in telling.holds:
        return list(telling.holds[origin])
    return [origin]


def told(flow, telling):
    """The telling as it is told."""
    holds = [(holder, in_order(telling.holds[holder])) for holder in flow.holders]
    carries = [(source, in_order(telling.carries[source])) for source in flow.sources]
    return (tuple(holds), tuple(carries), in_order(telling.known))


def in_order(sources):
    """The ascending tuple of the sources in a dict."""
    return tuple(sorted(list(sources)))


def telling_in(flow, value):
    """A value of any kind as a telling, None if it is none."""
    if not is_row_of(value, 3):
        return None
    holds, carries, known = value
    if not is_row_of(holds, len(flow.holders)) or not is_row_of(carries, len(flow.sources)):
        return None
    for item, holder in zip(holds, flow.holders):
        if not is_row_of(item, 2) or not is_holder(item[0], holder) or not are_sources(flow, item[1]):
            return None
    for item, source in zip(carries, flow.sources):
        if not is_row_of(item, 2) or not is_source(item[0], [source]) or not are_sources(flow, item[1]):
            return None
    if not are_sources(flow, known):
        return None
    return Telling(in_dicts(holds), in_dicts(carries), {source: True for source in known})


def in_dicts(rows):
    """A dict with a dict of the sources for each holder or source of these pairs."""
    return {of: {source: True for source in sources} for of, sources in rows}


def are_sources(flow, value):
    """Whether this is an ascending tuple of unlike sources of a program."""
    if not isinstance(value, tuple) or not all([is_source(item, flow.sources) for item in value]):
        return False
    return list(value) == sorted(set(value))


def is_closed(flow, telling):
    """Whether a telling has all that is asked for."""
    if not all([source in telling.known for source in flow.given + [WORLD]]):
        return False
    return not lacking_in(flow, telling)
