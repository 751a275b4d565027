"""The standings of a row program as standings of the program in which rows pass name by name."""

from passednames.offers import channel_of, offers_of, rest_of_meeting, word_of
from passednames.sides import all_names, waits_of
from passednames.threads import opened, settle


def image_in(table, singled, standing):
    """The standing that does what a standing of the row program does; table is of the singled program."""
    known, own, threads = standing
    used = list(range(known + own))
    found = []
    for path, numbers in threads:
        image = singled.choices[path]
        row = {name: number for name, number in zip(table.free[image], numbers)}
        found.extend(opened(table, image, row, used))
    rest, _ = settle(found, all_names(known))
    return rest


def pass_on(table, singled, standing):
    """The triple (STANDING, KEYS, meetings) behind all rows that have begun to pass in a standing."""
    keys = all_names(standing[0])
    many = 0
    meeting = meeting_within(table, singled, standing)
    while meeting is not None:
        standing, inner = rest_of_meeting(table, standing, meeting[0], meeting[1])
        keys = tuple([keys[number] for number in inner])
        many += 1
        meeting = meeting_within(table, singled, standing)
    return (standing, keys, many)


def meeting_within(table, singled, standing):
    """The first pair (send, take) of two threads that stand within one row, None if there is none."""
    offers = [offer for offer in offers_of(table, standing) if offer.path in singled.within]
    for send in offers:
        for take in offers:
            if word_of(send) == "send" and word_of(take) == "take" and channel_of(send) == channel_of(take):
                return (send, take)
    return None


def steps_between(rows, start, known, done, target):
    """The least row of steps of the singled program that does what a step of the row program does.

    start is the image of the standing ahead, known how many names it knows; done is the pair
    (action, step), target the pair (image, KEYS) to which the steps lead.
    """
    action, step = done
    if action[0] == "wait":
        return least_waits(rows, start, known, target)
    moves = [place for place, (other, rests) in enumerate(rows[start]) if other == action and rests[step[1]] == target]
    return ((moves[0],) + step[1:],)


def least_waits(rows, start, known, target):
    """The fewest waits, of several rows of them the least, to a pair (index, KEYS); one at least."""
    ahead = [((start, all_names(known)), ())]
    met = {}
    done = 0
    while target not in met:
        (index, keys), steps = ahead[done]
        for move, (behind, inner) in waits_of(rows[index]):
            pair = (behind, tuple([keys[number] for number in inner]))
            if pair not in met:
                met[pair] = steps + ((move, 0),)
                ahead.append((pair, met[pair]))
        done += 1
    return met[target]
