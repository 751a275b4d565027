"""passednames.errors: what the interface lists."""

import unittest

from passednames import errors
from tests.samples import values_of_every_kind

LISTED = {
    "BadName": ["value"], "BadPiece": ["path"], "BadProgram": ["place"], "BadGiven": ["value"],
    "BadStanding": ["place"], "BadMove": ["value"], "BadJoining": ["value"], "BadMatching": ["value"],
    "BadLikeness": ["value"], "BadPaper": ["word"], "BadSentence": ["path"], "BadSurrounding": ["path"],
    "BadForm": ["place"], "BadRule": ["value"], "BadStep": ["place"], "BadKinds": ["place"],
    "BadText": ["line", "word"], "BadIndex": ["value"], "BadParameter": ["value"], "NotFinite": ["path"],
    "NotOpen": ["path"], "NoMove": [], "Unlike": ["value"], "TooGreat": ["most"], "NothingBack": [],
    "BadDeed": ["place"],
}


class Errors(unittest.TestCase):

    def test_all_stand_in_the_file(self):
        for name in [*LISTED, "PassError"]:
            self.assertEqual(getattr(errors, name).__module__, "passednames.errors")

    def test_pass_error_is_directly_beneath_value_error(self):
        self.assertEqual(errors.PassError.__bases__, (ValueError,))

    def test_the_others_are_directly_beneath_pass_error(self):
        for name in LISTED:
            self.assertEqual(getattr(errors, name).__bases__, (errors.PassError,), name)

    def test_arguments_are_attributes_by_position(self):
        for name, told in LISTED.items():
            for value in values_of_every_kind():
                values = [value, (1, "a")][:len(told)]
                raised = getattr(errors, name)(*values)
                for attribute, wanted in zip(told, values):
                    self.assertIs(getattr(raised, attribute), wanted)

    def test_arguments_are_attributes_by_name(self):
        for name, told in LISTED.items():
            values = {attribute: (place, name) for place, attribute in enumerate(told)}
            raised = getattr(errors, name)(**values)
            self.assertEqual({key: getattr(raised, key) for key in told}, values)

    def test_no_more_and_no_less_arguments(self):
        for name, told in LISTED.items():
            if told:
                self.assertRaises(TypeError, getattr(errors, name), *[1] * (len(told) - 1))
                self.assertRaises(TypeError, getattr(errors, name), *[1] * (len(told) + 1))

    def test_no_argument_at_all(self):
        for name in ("NoMove", "NothingBack"):
            self.assertIsInstance(getattr(errors, name)(), errors.PassError)

    def test_each_can_be_shown(self):
        for name, told in LISTED.items():
            self.assertIsInstance(str(getattr(errors, name)(*[7] * len(told))), str)
