"""Threads: opening a part to them, and settling a row of them to a standing."""

from passednames.errors import BadStanding, TooGreat
from passednames.pieces import BRANCHES, parts_below
from passednames.plain import are_from_zero, is_from_zero, is_row_of, least_not_in

MOST_THREADS = 8
MOST_NAMES = 12


def opened(table, path, row, used):
    """The list of the threads of a part, row[X] being the number of its free name X.

    A new takes the least number that is not used, and puts it behind the used ones.
    """
    part = table.parts[path]
    word = part[0]
    if word == "call":
        return opened_call(table, part, row, used)
    if word == "new":
        number = least_not_in(used)
        used.append(number)
        return opened(table, path + (2,), {**row, part[1]: number}, used)
    if word == "beside":
        threads = []
        for indexes, _ in parts_below(part):
            threads.extend(opened(table, path + indexes, row, used))
        return threads
    if is_thread_part(part):
        return [(path, tuple([row[name] for name in table.free[path]]))]
    return []


def opened_call(table, call, row, used):
    """The list of the threads of the BODY that is called."""
    _, number, names = call
    params, _ = table.program[0][number]
    inner = {param: row[name] for param, name in zip(params, names)}
    return opened(table, (0, number, 1), inner, used)


def is_thread_part(part):
    """Whether a thread may have this part: a branch, or a one with branches."""
    return part[0] in BRANCHES or (part[0] == "one" and len(part[1]) > 0)


def settle(threads, known):
    """The pair (STANDING, KEYS) of a row of threads; known holds those of their numbers that are known."""
    numbers = unlike_numbers(threads)
    keys = [number for number in numbers if number in known]
    own = [number for number in numbers if number not in known]
    places = {number: place for place, number in enumerate(keys + own)}
    rows = []
    for path, row in threads:
        rows.append((path, tuple([places[number] for number in row])))
    return ((len(keys), len(own), tuple(rows)), tuple(keys))


def unlike_numbers(threads):
    """The list of the unlike numbers of threads, as they come up from the left."""
    found = {}
    for _, numbers in threads:
        for number in numbers:
            found[number] = True
    return list(found)


def need_small(standings):
    """Raises TooGreat if one of these has too many threads, or else if one has too many names."""
    if any([len(standing[2]) > MOST_THREADS for standing in standings]):
        raise TooGreat(MOST_THREADS)
    if any([standing[0] + standing[1] > MOST_NAMES for standing in standings]):
        raise TooGreat(MOST_NAMES)


def first_standing(table, given):
    """The pair (STANDING, KEYS) of the first standing."""
    row = {name: given[name] for name in table.free[(1,)]}
    # The ten integers of GIVEN are used up whether MAIN has them or not: no new name is one of them.
    threads = opened(table, (1,), row, list(range(10)))
    standing, keys = settle(threads, given)
    need_small([standing])
    return (standing, keys)


def checked_standing(table, value):
    """Returns a standing of the program; raises what need_standing raises."""
    if not is_row_of(value, 3):
        raise BadStanding(())
    for place in (0, 1):
        if not is_from_zero(value[place]):
            raise BadStanding((place,))
    known, own, threads = value
    if known + own > MOST_NAMES:
        raise TooGreat(MOST_NAMES)
    if not isinstance(threads, tuple):
        raise BadStanding((2,))
    if len(threads) > MOST_THREADS:
        raise TooGreat(MOST_THREADS)
    for place, thread in enumerate(threads):
        if not is_thread(table, thread) or max(thread[1], default=-1) >= known + own:
            raise BadStanding((2, place))
    standing, _ = settle(threads, tuple(range(known)))
    if standing != value:
        raise BadStanding(())
    return value


def is_thread(table, value):
    """Whether this is a thread of the program, its numbers being any integers from 0 on."""
    if not is_row_of(value, 2) or not are_from_zero(value[0]) or value[0] not in table.parts:
        return False
    path, numbers = value
    if not is_thread_part(table.parts[path]):
        return False
    return are_from_zero(numbers) and len(numbers) == len(table.free[path])
