"""The interface as a whole: its names, arguments and kinds of values, and any values, objects of the package among them."""

import importlib
import inspect
import unittest

from eachsome import errors
from eachsome.desks import Desk
from eachsome.shells import Shell
from tests.helpers import any_values, outcome

ARGUMENTS = {
    "sentences": {"sentence_error": "value", "clause_of": "literals", "owner_of": "sentence letter", "less": "sentence places"},
    "sentencetexts": {"sentence_text": "sentence", "read_sentence": "value"},
    "rowtexts": {"sentence_rows": "sentence", "read_rows": "value"},
    "plays": {"play_error": "sentence value", "state_of": "clause play", "result": "sentence play"},
    "meaning": {"winner": "sentence play", "good_moves": "sentence play", "trees": "sentence"},
    "rows": {"dropped": "owners side row", "clashes": "one other", "met": "one other"},
    "papers": {"paper_error": "sentence value", "rows_of": "sentence paper", "trimmed": "paper", "clauses_used": "paper"},
    "papertexts": {"paper_text": "paper", "read_paper": "value"},
    "replies": {"why": "sentence paper play", "reply": "sentence paper play", "followed": "sentence paper others"},
    "tables": {"table_of": "sentence paper", "table_reply": "table play"},
    "search": {"find": "sentence", "decided": "sentence", "core": "sentence"},
    "lessening": {"step_error": "sentence value", "done_step": "sentence step", "steps_error": "sentence value",
                  "done_steps": "sentence steps", "lessened": "sentence"},
    "carrying": {"carried": "sentence steps paper", "answers_carried": "sentence steps answers"},
    "squeezing": {"squeezed": "sentence", "unsqueezed": "sentence paper", "answers_unsqueezed": "sentence answers"},
    "answers": {"answers_error": "sentence value", "answers_reply": "answers play"},
    "webs": {"straight": "sentence literal", "led": "sentence literal"},
    "twos": {"two_fault": "sentence", "two_solved": "sentence"},
    "horns": {"yes_letters": "sentence letter", "once_no": "sentence", "horn_solved": "sentence"},
    "engines": {"engine_of": "sentence", "solved": "sentence", "move_of": "sentence evidence play"},
    "formulas": {"formula_error": "value", "free_names": "formula", "called": "formula names"},
    "formulatexts": {"formula_text": "formula", "read_formula": "value"},
    "truths": {"holds": "formula world", "parting_world": "one other"},
    "prenexes": {"prenex": "formula", "lowered": "formula"},
    "compiling": {"compiled": "formula", "helper_play": "formula settings", "formula_paper": "formula", "formula_solved": "formula",
                  "formula_reply": "formula found settings", "formula_followed": "formula found others"},
    "turngames": {"game_error": "value", "each_choices": "game state", "some_choices": "game state choice",
                  "moved": "game state choice answer", "can_force": "game state rounds"},
    "unrolling": {"unrolled": "game rounds", "game_paper": "game rounds", "game_move": "game rounds paper history"},
    "desks": {"desk_behind": "owners log"},
}
METHODS = {
    Desk: {"__init__": "owners", "put": "clause", "drop": "place", "letter": "owner", "who": "", "paper": "", "reply": "play", "undo": "",
           "redo": "", "at": "version", "copy": ""},
    Shell: {"__init__": "", "say": "line"},
}
SENTENCE = ("es", ((1, 2), (-1, -2)))
LETTER = ("letter", "s0")
GAME = ((False,), 1, 1, ("and", ()), ("and", ()), (LETTER,), LETTER)


def calls_of_any_values():
    """A name and a call of one argument for each place of the interface at which any value may stand."""
    found = []
    for module, functions in ARGUMENTS.items():
        for name, arguments in functions.items():
            function = getattr(importlib.import_module(f"eachsome.{module}"), name)
            if arguments == "value":
                found.append((name, function))
            elif arguments == "sentence value":
                found.append((name, lambda value, function=function: function(SENTENCE, value)))
    found.append(("desk_behind", lambda value: importlib.import_module("eachsome.desks").desk_behind("es", value).log))
    found.append(("Desk", lambda value: Desk(value).sentence))
    for name in ("put", "drop", "letter", "reply", "at"):
        found.append((name, lambda value, name=name: getattr(Desk("es"), name)(value)))
    found.append(("say", lambda value: Shell().say(value)))
    return found


def places_in(tuples):
    """Functions that put a value into each place of these tuples, at whatever depth."""
    made = [lambda value: value]
    if isinstance(tuples, tuple):
        for place, item in enumerate(tuples):
            for put in places_in(item):
                made.append(lambda value, place=place, put=put: tuples[:place] + (put(value),) + tuples[place + 1:])
    return made


class InterfaceTest(unittest.TestCase):
    def test_functions(self):
        for module, functions in ARGUMENTS.items():
            found = importlib.import_module(f"eachsome.{module}")
            for name, arguments in functions.items():
                function = getattr(found, name)
                self.assertEqual(function.__module__, f"eachsome.{module}")
                self.assertEqual(list(inspect.signature(function).parameters), arguments.split(), name)
                for parameter in inspect.signature(function).parameters.values():
                    self.assertEqual((parameter.kind, parameter.default), (parameter.POSITIONAL_OR_KEYWORD, parameter.empty))

    def test_methods(self):
        for shape, methods in METHODS.items():
            for name, arguments in methods.items():
                self.assertIn(name, vars(shape))
                self.assertEqual(list(inspect.signature(vars(shape)[name]).parameters), ["self", *arguments.split()], name)
        for name in ("sentence", "version", "log", "found"):
            self.assertIsInstance(vars(Desk)[name], property)
            self.assertIsNone(vars(Desk)[name].fset)
        self.assertIn("__eq__", vars(Desk))

    def test_objects_of_the_package_are_wrong_wherever_they_stand(self):
        """They are as wrong as None is there."""
        desk, error = Desk("e"), errors.Taken(given="e")
        error.given = [error]
        right = (SENTENCE, ((1, 2), 1), ("no", (("clause", 0), ("drop", 0), ("meet", 0, 1))), ("yes", (("lot", (1,)),)), ("drop", 0), (("unit", 0),),
                 ((2, ("all", (1,))),), ("some", "x", ("and", (("letter", "x"), ("not", LETTER)))), ("same", LETTER, LETTER), GAME,
                 (("put", (1,)), ("drop", 0), ("letter", "s")), (1, -2))
        for name, call in calls_of_any_values():
            for whole in right:
                for put in places_in(whole):
                    expected = outcome(lambda: call(put(None)))
                    for odd in (desk, Shell(), error, errors.Unfit()):
                        told = outcome(lambda: call(put(odd)))
                        self.assertEqual(told[:2], expected[:2], (name, whole))

    def test_any_values_raise_nothing_else(self):
        values = any_values()
        for _, call in calls_of_any_values():
            for value in values:
                for made in (value, (value,), (value, value), ("es", value), ("no", value), ("letter", value), ("put", value), (("put", value),)):
                    outcome(lambda: call(made))


if __name__ == "__main__":
    unittest.main()
