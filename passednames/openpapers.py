"""Papers that two programs are open alike, and attacks that show that they are not."""

from passednames.attacks import attacks_on, is_attack
from passednames.errors import NoMove, Unlike
from passednames.joint import has_form_of_joint, is_joint, joinings_of
from passednames.plain import is_row_up_to
from passednames.replies import MOST_JOINT, demands_in, demands_met, game_of, replies_at
from passednames.rounds import are_met_by, rounds_of, unlike_ones


def open_paper(one, other, apart=()):
    """The ascending tuple of the met joint standings that are open alike, if the first one is."""
    game = game_of(one, other, apart)
    demands = demands_met(game)
    gone = rounds_of(demands)
    if game.first in gone:
        raise Unlike(gone[game.first])
    return tuple(sorted([joint for joint in demands if joint not in gone]))


def is_open_paper(one, other, paper, apart=()):
    """Whether a value of any kind is a paper that two programs are open alike."""
    game = game_of(one, other, apart)
    if not is_row_up_to(paper, MOST_JOINT):
        return False
    forms = [has_form_of_joint(item) for item in paper]
    held = {item: True for item, has_form in zip(paper, forms) if has_form}
    if game.first not in held:
        return False
    # What is no joint standing is found in its turn: one ahead of it may raise an error.
    many = forms.index(False) if False in forms else len(paper)
    for item in unlike_ones(paper[:many]):
        if not is_joint(game.tables, item) or not is_held(game, item, held):
            return False
    return many == len(paper)


def is_held(game, joint, held):
    """Whether each move of a joint standing is answered in a paper, at each joining that may be."""
    for joining in joinings_of(joint):
        if not are_met_by(demands_in(replies_at(game, joint, joining)), held):
            return False
    return True


def open_attack(one, other, apart=()):
    """An attack on the first joint standing, no deeper than open_round tells."""
    game = game_of(one, other, apart)
    gone = rounds_of(demands_met(game))
    if game.first not in gone:
        raise NoMove()
    return attacks_on(game, gone)[game.first]


def is_open_attack(one, other, attack, apart=()):
    """Whether a value of any kind is an attack on the first joint standing."""
    return is_attack(game_of(one, other, apart), attack)
