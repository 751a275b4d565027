"""Likeness however names are joined."""

from passednames.conditions import all_joinings, is_joining
from passednames.errors import BadJoining, BadParameter, NoMove, Unlike
from passednames.likeness import alike, alike_paper, is_alike_paper
from passednames.names import AS_IS
from passednames.plain import are_names, is_row_of, is_row_up_to, least_not_in
from passednames.programs import free_names
from passednames.quiet import is_rooted_paper, is_weak_paper
from passednames.silent import alike_rooted, alike_weak, rooted_paper, weak_paper
from passednames.words import ALL_FOUR, need_likeness

MOST_NAMES_JOINED = 5


def both_names(one, other):
    """The ascending tuple of the names that are free in MAIN of one or the other."""
    return tuple(sorted(set(free_names(one) + free_names(other))))


def given_joined(names, joining):
    """The GIVEN in which these names are joined."""
    need_names(names)
    if not is_joining_of(names, joining):
        raise BadJoining(joining)
    given = list(AS_IS)
    for name, first in zip(names, joining):
        given[name] = names[first]
    return tuple(given)


def need_names(value):
    """Raises BadParameter unless this is an ascending tuple of at most 5 unlike names."""
    if not is_row_up_to(value, MOST_NAMES_JOINED) or not are_names(value) or list(value) != sorted(set(value)):
        raise BadParameter(value)


def is_joining_of(names, value):
    """Whether this is a joining of so many things as there are names."""
    return is_joining(value) and len(value) == len(names)


def alike_joined(one, other, likeness):
    """Whether two programs are alike at each joining of the names of both."""
    return first_apart(one, other, likeness) is None


def apart_joined(one, other, likeness):
    """The first joining at which two programs are not alike."""
    joining = first_apart(one, other, likeness)
    if joining is None:
        raise NoMove()
    return joining


def alike_at(one, other, likeness):
    """The ascending tuple of the joinings at which two programs are alike."""
    found = [joining for joining, given in ways_to_join(one, other, likeness) if are_alike(one, other, likeness, given)]
    return tuple(found)


def first_apart(one, other, likeness):
    """The first joining at which two programs are not alike, None if there is none."""
    for joining, given in ways_to_join(one, other, likeness):
        if not are_alike(one, other, likeness, given):
            return joining
    return None


def ways_to_join(one, other, likeness):
    """The list of the pairs (joining, GIVEN) for all joinings of the names of both, behind all checks.

    Raises what all_joinings raises, TooGreat(5), if they are more than 5.
    """
    names = both_names(one, other)
    need_likeness(likeness, ALL_FOUR)
    return [(joining, given_joined(names, joining)) for joining in all_joinings(len(names))]


def are_alike(one, other, likeness, given):
    """Whether two programs are alike by one of four likenesses."""
    if likeness == "weak":
        return alike_weak(one, other, given)
    if likeness == "rooted":
        return alike_rooted(one, other, given)
    return alike(one, other, likeness, given)


def joined_paper(one, other, likeness):
    """The tuple with one paper for each joining of the names of both."""
    papers = []
    for joining, given in ways_to_join(one, other, likeness):
        try:
            papers.append(paper_at(one, other, likeness, given))
        except Unlike:
            raise Unlike(joining)
    return tuple(papers)


def paper_at(one, other, likeness, given):
    """A paper that two programs are alike by one of four likenesses; Unlike if they are not."""
    if likeness == "weak":
        return weak_paper(one, other, given)
    if likeness == "rooted":
        return rooted_paper(one, other, given)
    return alike_paper(one, other, likeness, given)


def is_joined_paper(one, other, likeness, paper):
    """Whether a value of any kind is a tuple with one paper for each joining."""
    ways = ways_to_join(one, other, likeness)
    if not is_row_of(paper, len(ways)):
        return False
    for (_, given), item in zip(ways, paper):
        if not is_paper_at(one, other, likeness, item, given):
            return False
    return True


def is_paper_at(one, other, likeness, paper, given):
    """Whether a value of any kind is a paper that two programs are alike by one of four likenesses."""
    if likeness == "weak":
        return is_weak_paper(one, other, paper, given)
    if likeness == "rooted":
        return is_rooted_paper(one, other, paper, given)
    return is_alike_paper(one, other, likeness, paper, given)


def joining_surrounding(names, joining):
    """A surrounding that joins these names silently before its program does anything."""
    given = given_joined(names, joining)
    joined_names = [name for name in names if given[name] != name]
    if not joined_names:
        return ((), ("hole",))
    channel = least_not_in(names)
    takes, sends = ("hole",), ("one", ())
    for name in reversed(joined_names):
        takes = ("take", channel, name, takes)
        sends = ("send", channel, given[name], sends)
    return ((), ("new", channel, ("beside", (takes, sends))))
