"""A program, laid out for what is asked of it again and again."""

from passednames.pieces import free_of
from passednames.walking import MAIN, checked_parts


class Table:
    """A checked program with its parts, and their free names, by their paths."""

    def __init__(self, program, where_main=MAIN):
        parts = checked_parts(program, where_main)
        self.program = program
        self.parts = {path: part for path, part in parts}
        self.free = {path: free_of(part) for path, part in parts}
