"""A house: a standing of a program, led by deeds that can be taken back."""

from passednames.deeds import Held, held_behind, is_deed, need_deeds
from passednames.errors import BadDeed, BadParameter, NoMove, NothingBack, TooGreat
from passednames.moving import moves_of
from passednames.names import AS_IS, need_given
from passednames.plain import are_from_zero, are_unlike
from passednames.retold import MOST_NAMES, program_of_standing
from passednames.runs import GREATEST_FREE_NAME
from passednames.tables import Table
from passednames.threads import first_standing


class House:
    """A standing of a program with the world's names of its known numbers, and the deeds that led to it."""

    def __init__(self, program, given=AS_IS):
        self._table = Table(program)
        standing, names = first_standing(self._table, need_given(given))
        self.program = program
        self.given = given
        self._deeds = []
        self._past = [Held(standing, names, GREATEST_FREE_NAME, None)]

    def standing(self):
        """The present standing."""
        return self._past[-1].now

    def names(self):
        """The tuple of the world's names of the known numbers."""
        return self._past[-1].called

    def moves(self):
        """The moves of the present standing."""
        return moves_of(self._table, self.standing())

    def do(self, deed):
        """Does a deed; what is refused changes nothing."""
        if not is_deed(deed):
            raise BadDeed(0)
        self._past.append(held_behind(self._table, self._past[-1], deed))
        self._deeds.append(deed)

    def follow(self, deeds):
        """Does all of these deeds in turn, or none."""
        need_deeds(deeds)
        held = self._past[-1]
        behind = []
        for deed in deeds:
            held = held_behind(self._table, held, deed)
            behind.append(held)
        self._past.extend(behind)
        self._deeds.extend(list(deeds))

    def trial(self, deeds):
        """How many of these deeds are done ahead of the first refused one, the standing then, and its names."""
        need_deeds(deeds)
        held = self._past[-1]
        done = 0
        try:
            for deed in deeds:
                held = held_behind(self._table, held, deed)
                done += 1
        except (NoMove, TooGreat):
            pass
        return (done, held.now, held.called)

    def undo(self):
        """Takes the last deed back."""
        if not self._deeds:
            raise NothingBack()
        self._deeds.pop()
        self._past.pop()

    def log(self):
        """The tuple of the deeds that have been done and not taken back."""
        return tuple(self._deeds)

    def trace(self):
        """The tuple of the actions of these deeds, told with the world's names, and of the joins."""
        return tuple([held.done for held in self._past[1:]])

    def offers(self):
        """The ascending tuple of the pairs (word, name) of what the world can do now."""
        actions = [action for action, _ in self.moves() if action[0] != "wait"]
        return tuple(sorted(set([(action[0], self.names()[action[1]]) for action in actions])))

    def copy(self):
        """A house of its own with the same standing, names and deeds."""
        other = House(self.program, self.given)
        other._deeds = list(self._deeds)
        other._past = list(self._past)
        return other

    def as_program(self, names):
        """The present standing as a program whose free name I stands for names[I]."""
        if not are_from_zero(names) or len(names) > MOST_NAMES or not are_unlike(names):
            raise BadParameter(names)
        if not all([name in names for name in self.names()]):
            raise BadParameter(names)
        return program_of_standing(self._table, self.standing(), [names.index(name) for name in self.names()])

    def __len__(self):
        return len(self._deeds)

    def __iter__(self):
        return iter(self._deeds)

    def __eq__(self, other):
        if not isinstance(other, House):
            return False
        if self.program != other.program or self.standing() != other.standing():
            return False
        return self.names() == other.names()
