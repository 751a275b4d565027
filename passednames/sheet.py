"""Sheets: programs with names, and sayings about them."""

from passednames.errors import BadParameter, BadText, TooGreat
from passednames.programs import need_program
from passednames.reading import program_in, words_in
from passednames.sayings import is_free_name, is_so, need_saying

MOST_LINES = 200


class Sheet:
    """The programs and sayings of a text; rows has for each saying the pair (line, truth)."""

    def __init__(self, text):
        self._programs = {}
        self._lines = []
        sayings = []
        for line, words in lines_in(text):
            if words[0] == "program":
                name = need_name_of_program(words, line, self._programs)
                self._programs[name] = need_program(program_in(words, 3, line))
            elif words[0] in ("say", "deny"):
                need_saying(words, line, self._programs)
                sayings.append((line, words))
            else:
                raise BadText(line, 0)
            self._lines.append(" ".join(words))
        self.rows = tuple([(line, is_so(words[1:], self._programs) == (words[0] == "say")) for line, words in sayings])

    def all_true(self):
        """Whether all is so that is said, and nothing that is denied."""
        return all([truth for _, truth in self.rows])

    def named(self, name):
        """The program with this name."""
        if not isinstance(name, str) or name not in self._programs:
            raise BadParameter(name)
        return self._programs[name]

    def __len__(self):
        return len(self.rows)

    def __iter__(self):
        return iter(self.rows)

    def __eq__(self, other):
        return isinstance(other, Sheet) and str(self) == str(other)

    def __str__(self):
        return "\n".join(self._lines)


def lines_in(text):
    """The list of the pairs (line, words) of the lines with words."""
    if not isinstance(text, str):
        raise BadText(0, 0)
    lines = text.split("\n")
    found = [(line, words_in(row)) for line, row in enumerate(lines)]
    found = [(line, words) for line, words in found if words]
    if not found:
        raise BadText(0, 0)
    if len(lines) > MOST_LINES:
        raise TooGreat(MOST_LINES)
    return found


def need_name_of_program(words, line, programs):
    """The name that a line gives; raises BadText for the first wrong one of its words ahead of the program."""
    if len(words) < 2 or not is_free_name(words[1], programs):
        raise BadText(line, 1)
    if len(words) < 3 or words[2] != "is":
        raise BadText(line, 2)
    return words[1]
