"""Where names go: which sources the names in a program may have, in all runs."""

from passednames.errors import BadKinds
from passednames.names import AS_IS, need_given
from passednames.plain import is_row_of
from passednames.sources import Flow, is_source
from passednames.tables import Table
from passednames.tellings import is_closed, least_closed, sources_of, telling_in, told

RIGHTS = ("both", "none", "send", "take")


def least_telling(program, given=AS_IS):
    """The closed telling whose sources are within those of each other closed one."""
    flow = flow_of(program, given)
    return told(flow, least_closed(flow))


def flow_of(program, given):
    """What counts of a program, behind the checks of both."""
    table = Table(program)
    return Flow(table, need_given(given))


def is_closed_telling(program, value, given=AS_IS):
    """Whether a value of any kind is a closed telling."""
    flow = flow_of(program, given)
    telling = telling_in(flow, value)
    return telling is not None and is_closed(flow, telling)


def uses_of(program, given=AS_IS):
    """The ascending tuple of the triples (source, SENDS, TAKES): what may be done on names of each source."""
    flow = flow_of(program, given)
    telling = least_closed(flow)
    return tuple([(source, paths_on(telling, flow.sends, source), paths_on(telling, flow.takes, source))
                  for source in flow.sources])


def paths_on(telling, steps, source):
    """The ascending tuple of the paths of those sends or takes whose channel may be of a source."""
    return tuple(sorted([path for path, channel, _ in steps if source in sources_of(telling, channel)]))


def need_rights(program, value, given=AS_IS):
    """Returns an ascending tuple of pairs (source, RIGHT); raises BadKinds for anything else."""
    flow = flow_of(program, given)
    return checked_rights(flow, value)


def checked_rights(flow, value):
    """Returns rights over the sources that count; raises BadKinds."""
    if not isinstance(value, tuple):
        raise BadKinds(())
    for place, item in enumerate(value):
        if not is_right(flow, item) or (place > 0 and not value[place - 1][0] < item[0]):
            raise BadKinds((place,))
    return value


def is_right(flow, value):
    """Whether this is a pair (source, RIGHT)."""
    if not is_row_of(value, 2) or not is_source(value[0], flow.sources):
        return False
    return isinstance(value[1], str) and value[1] in RIGHTS


def over_rights(program, rights, given=AS_IS):
    """The ascending tuple of the pairs (path, source) of sends and takes for which there is no right."""
    flow = flow_of(program, given)
    checked_rights(flow, rights)
    telling = least_closed(flow)
    found = []
    for source, right in rights:
        if right not in ("both", "send"):
            found.extend([(path, source) for path in paths_on(telling, flow.sends, source)])
        if right not in ("both", "take"):
            found.extend([(path, source) for path in paths_on(telling, flow.takes, source)])
    return tuple(sorted(found))
