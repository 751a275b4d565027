"""What is asked of the rows and uses of a sentence."""

from passednames.plain import is_below, is_row_of

MOST_NAMES_IN_ROW = 24


def is_sentence_row(value, manys):
    """Whether this is a row of a sentence; manys has how many names each row ahead of it has."""
    if not is_row_of(value, 2) or not is_below(value[0], MOST_NAMES_IN_ROW + 1):
        return False
    many, action = value
    if not isinstance(action, tuple) or not action or not isinstance(action[0], str):
        return False
    word = action[0]
    if word == "wait":
        return is_row_of(action, 2) and are_uses(action[1], many, manys)
    if word == "send":
        return is_row_of(action, 4) and are_below(action[1:3], many) and are_uses(action[3], many, manys)
    if word == "open":
        return is_row_of(action, 3) and is_below(action[1], many) and are_uses(action[2], many + 1, manys)
    if word == "take":
        return is_row_of(action, 3) and is_below(action[1], many) and are_cases(action[2], many, manys)
    return False


def are_below(values, end):
    """Whether these are integers from 0 to end - 1."""
    return all([is_below(value, end) for value in values])


def are_uses(value, end, manys):
    """Whether this is a tuple of uses with names from 0 to end - 1."""
    return isinstance(value, tuple) and all([is_use(use, end, manys) for use in value])


def are_cases(value, many, manys):
    """Whether this is a tuple of pairs (CASE, USE) in a row with so many names."""
    return isinstance(value, tuple) and all([is_case(pair, many, manys) for pair in value])


def is_case(value, many, manys):
    """Whether this is a pair (CASE, USE) in a row with so many names."""
    if not is_row_of(value, 2):
        return False
    case, use = value
    if case is None:
        return is_use(use, many + 1, manys)
    return is_below(case, many) and is_use(use, many, manys)


def is_use(value, end, manys):
    """Whether this is a use of one of the rows with manys, its names being from 0 to end - 1."""
    if not is_row_of(value, 3) or not isinstance(value[0], bool) or not is_below(value[1], len(manys)):
        return False
    names = value[2]
    return is_row_of(names, manys[value[1]]) and are_below(names, end)


def cases_in(action):
    """The list of the pairs (CASE, USE) in the action of a row; the CASE is None but in a take."""
    if action[0] == "take":
        return list(action[2])
    return [(None, use) for use in action[-1]]
