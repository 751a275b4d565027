"""The interface: names, the files in which they are defined, parameters and their order."""

import importlib
import inspect
import unittest

from passednames.names import AS_IS

GIVEN = ("given", AS_IS)
APART = ("apart", ())
LISTED = {
    "names": {"need_name": ["value"], "need_given": ["value"]},
    "programs": {
        "need_program": ["value"], "need_finite": ["program"], "is_finite": ["program"], "free_names": ["program"],
        "measures": ["program"], "parts_of": ["program"], "part_at": ["program", "path"],
        "put_at": ["program", "path", "part"], "renamed": ["program", "given"], "same_but_bound": ["one", "other"],
    },
    "contexts": {
        "need_surrounding": ["value"], "hole_at": ["surrounding"], "names_over": ["surrounding"],
        "surrounded": ["surrounding", "program"], "beside_of": ["one", "other"],
    },
    "standings": {
        "start": ["program", GIVEN], "need_standing": ["program", "value"], "threads_of": ["program", "path", "numbers"],
        "settled": ["program", "threads", "known"],
    },
    "moving": {"moves": ["program", "standing"], "actions": ["program", "standing"], "is_stuck": ["program", "standing"]},
    "conditions": {
        "need_joining": ["many", "value"], "all_joinings": ["many"], "joined": ["program", "standing", "joining"],
        "holds_joined": ["condition", "joining"], "cases": ["program", "standing"],
    },
    "graphs": {"graph": ["program", GIVEN], "how_many": ["program", GIVEN]},
    "runs": {"walked": ["program", "given", "steps"], "traced": ["program", "given", "trace"]},
    "ever": {
        "can_ever": ["program", "given", "wanted"], "never_paper": ["program", "given", "wanted"],
        "is_never_paper": ["program", "given", "wanted", "paper"], "still_steps": ["program", "given", "words"],
        "silent_circle": ["program", "given"], "ranks": ["program", "given"], "are_ranks": ["program", "given", "value"],
    },
    "triples": {"triples_met": ["one", "other", GIVEN]},
    "likeness": {
        "alike": ["one", "other", "likeness", GIVEN], "rounds_apart": ["one", "other", "likeness", GIVEN],
        "alike_paper": ["one", "other", "likeness", GIVEN], "is_alike_paper": ["one", "other", "likeness", "paper", GIVEN],
        "exchanges": ["program", "likeness", GIVEN], "needed_names": ["program", "likeness", GIVEN],
    },
    "joinings": {
        "both_names": ["one", "other"], "given_joined": ["names", "joining"], "alike_joined": ["one", "other", "likeness"],
        "apart_joined": ["one", "other", "likeness"], "alike_at": ["one", "other", "likeness"],
        "joined_paper": ["one", "other", "likeness"], "is_joined_paper": ["one", "other", "likeness", "paper"],
        "joining_surrounding": ["names", "joining"],
    },
    "openly": {
        "open_alike": ["one", "other", APART], "open_round": ["one", "other", APART], "open_met": ["one", "other", APART],
    },
    "openpapers": {
        "open_paper": ["one", "other", APART], "is_open_paper": ["one", "other", "paper", APART],
        "open_attack": ["one", "other", APART], "is_open_attack": ["one", "other", "attack", APART],
    },
    "silent": {
        "weak_moves": ["program", GIVEN], "weak_triples": ["one", "other", GIVEN], "alike_weak": ["one", "other", GIVEN],
        "rounds_weak": ["one", "other", GIVEN], "alike_rooted": ["one", "other", GIVEN], "weak_paper": ["one", "other", GIVEN],
        "rooted_paper": ["one", "other", GIVEN],
    },
    "quiet": {
        "is_weak_paper": ["one", "other", "paper", GIVEN], "is_rooted_paper": ["one", "other", "paper", GIVEN],
        "idle_waits": ["program", GIVEN], "are_marks": ["program", "value", GIVEN], "greatest_marks": ["program", GIVEN],
    },
    "formed": {"form_of": ["program", "given", "known", "likeness"], "joined_forms": ["program", "known", "likeness"]},
    "written": {"need_form": ["value", "known", "likeness"], "program_of": ["value", "known", "likeness"]},
    "leading": {
        "led": ["program", "step"], "led_all": ["program", "steps"], "is_led": ["one", "other", "paper", "likeness"],
        "unfolding": ["program"],
    },
    "sentences": {
        "need_sentence": ["value"], "holds": ["program", "sentence", GIVEN], "depth_of": ["sentence"], "is_early": ["sentence"],
        "turned_sentence": ["sentence"],
    },
    "parting": {"parting": ["one", "other", "likeness", GIVEN], "parts": ["one", "other", "sentence", GIVEN]},
    "rowed": {"need_row_program": ["value"], "need_inner": ["program"], "singled": ["program"]},
    "rowgraphs": {
        "row_graph": ["program", GIVEN], "image_of": ["program", "given", "index"], "row_run": ["program", "given", "steps"],
        "finished": ["program", "given", "index"],
    },
    "kinds": {
        "least_telling": ["program", GIVEN], "is_closed_telling": ["program", "value", GIVEN], "uses_of": ["program", GIVEN],
        "need_rights": ["program", "value", GIVEN], "over_rights": ["program", "rights", GIVEN],
    },
    "once": {
        "lone_news": ["program", GIVEN], "lone_steps": ["program", "standing", GIVEN], "calmed": ["program", "standing", GIVEN],
        "lone_waits": ["program", GIVEN],
    },
    "texts": {"program_text": ["program"], "read_program": ["text"]},
}
CLASSES = {
    "house": ("House", {
        "__init__": ["program", GIVEN], "standing": [], "names": [], "moves": [], "do": ["deed"], "follow": ["deeds"], "trial": ["deeds"], "undo": [],
        "log": [], "trace": [], "offers": [], "copy": [], "as_program": ["names"], "__len__": [], "__iter__": [], "__eq__": ["other"]}),
    "sheet": ("Sheet", {"__init__": ["text"], "all_true": [], "named": ["name"], "__len__": [], "__iter__": [], "__eq__": ["other"], "__str__": []}),
}


def told_parameters(function):
    """The names of the parameters of a function, with their default values."""
    told = inspect.signature(function).parameters.values()
    return [(each.name, each.default) if each.default is not each.empty else each.name for each in told]


class Interface(unittest.TestCase):

    def test_functions_and_their_parameters(self):
        for file, functions in LISTED.items():
            module = importlib.import_module("passednames." + file)
            for name, wanted in functions.items():
                function = getattr(module, name)
                self.assertEqual(function.__module__, module.__name__, name)
                told = inspect.signature(function).parameters.values()
                for parameter in told:
                    self.assertEqual(parameter.kind, parameter.POSITIONAL_OR_KEYWORD, name)
                self.assertEqual(told_parameters(function), wanted, name)

    def test_classes_and_their_methods(self):
        for file, (name, methods) in CLASSES.items():
            module = importlib.import_module("passednames." + file)
            told = getattr(module, name)
            self.assertEqual((told.__module__, told.__bases__), (module.__name__, (object,)))
            for method, wanted in methods.items():
                # Each stands in the class itself.
                self.assertEqual(told_parameters(vars(told)[method]), ["self"] + wanted, method)
        from passednames.house import House
        from passednames.sheet import Sheet
        program = ((), ("one", ()))
        house = House(program)
        self.assertEqual((house.program, house.given, Sheet("program A is ( )").rows), (program, AS_IS, ()))
