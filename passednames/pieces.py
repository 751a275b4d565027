"""What can be asked of a piece and made of it. Pieces are taken to be checked already."""

from passednames.plain import least_not_in

TESTS = ("alike", "unlike")
# The last two stand in row programs alone.
PREFIXES = ("send", "take", "wait", "sends", "takes")
BRANCHES = ("send", "take", "wait", "sends", "takes", "alike", "unlike")
WITH_TWO_NAMES = ("send", "take", "alike", "unlike")
WITH_NAMES = ("sends", "takes")
ROWS = ("one", "beside")


def parts_below(piece):
    """The list of the pairs (indexes that lead to it, part) of the parts directly within a piece."""
    word = piece[0]
    if word in ROWS:
        return [((1, place), part) for place, part in enumerate(piece[1])]
    if word in WITH_TWO_NAMES or word in WITH_NAMES:
        return [((3,), piece[3])]
    if word == "wait":
        return [((1,), piece[1])]
    if word == "new":
        return [((2,), piece[2])]
    return []


def with_parts(piece, parts):
    """The piece with these parts, as many as it has, in the place of those directly within it."""
    if piece[0] in ROWS:
        return (piece[0], tuple(parts))
    return piece[:len(piece) - len(parts)] + tuple(parts)


def with_part_at(whole, path, part):
    """The whole with a value in the place that the path leads to."""
    if not path:
        return part
    place = path[0]
    return whole[:place] + (with_part_at(whole[place], path[1:], part),) + whole[place + 1:]


def bound_name(piece):
    """The name that a take or new binds, None for other pieces."""
    if piece[0] == "take":
        return piece[2]
    if piece[0] == "new":
        return piece[1]
    return None


def bound_names(piece):
    """The tuple of the names that a piece binds."""
    if piece[0] == "takes":
        return piece[2]
    name = bound_name(piece)
    return () if name is None else (name,)


def own_names(piece):
    """The names that stand in the piece itself, outside of its parts, and are not bound by it."""
    word = piece[0]
    if word in ("send", "alike", "unlike"):
        return piece[1:3]
    if word in ("take", "takes"):
        return piece[1:2]
    if word == "sends":
        return piece[1:2] + piece[2]
    if word == "call":
        return piece[2]
    return ()


def free_of(piece):
    """The ascending tuple of the free names of a piece."""
    found = list(own_names(piece))
    bound = bound_names(piece)
    for _, part in parts_below(piece):
        found.extend([name for name in free_of(part) if name not in bound])
    return tuple(sorted(set(found)))


def depth_below(piece):
    """How deep a piece is, itself being 1 deep."""
    return 1 + max([depth_below(part) for _, part in parts_below(piece)], default=0)


def with_names(piece, row, chosen):
    """The piece with row[X] for each free name X; a bound name becomes chosen(piece, row)."""
    inner = row
    bound = bound_name(piece)
    if bound is not None:
        inner = row[:bound] + (chosen(piece, row),) + row[bound + 1:]
    parts = [with_names(part, inner, chosen) for _, part in parts_below(piece)]
    return with_parts(with_own_names(piece, row, inner), parts)


def with_own_names(piece, row, inner):
    """The piece, its parts as they are, with names of row, and of inner for what it binds."""
    word = piece[0]
    if word == "take":
        return (word, row[piece[1]], inner[piece[2]], piece[3])
    if word == "new":
        return (word, inner[piece[1]], piece[2])
    if word == "call":
        return (word, piece[1], tuple([row[name] for name in piece[2]]))
    if word in WITH_TWO_NAMES:
        return (word, row[piece[1]], row[piece[2]], piece[3])
    return piece


def kept_or_least(piece, row):
    """What the bound name becomes where it must catch no other name, and else stays."""
    bound = bound_name(piece)
    _, part = parts_below(piece)[0]
    images = [row[name] for name in free_of(part) if name != bound]
    if bound in images:
        return least_not_in(images)
    return bound


def next_number(_, row):
    """A number from 10 on that only tells how many names are bound around the piece."""
    return max(9, max(row)) + 1


def with_calls_moved(piece, by):
    """The piece whose calls are those of definitions so many places behind."""
    if piece[0] == "call":
        return (piece[0], piece[1] + by, piece[2])
    return with_parts(piece, [with_calls_moved(part, by) for _, part in parts_below(piece)])
