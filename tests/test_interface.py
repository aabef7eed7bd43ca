"""The interface: names are defined in their files, with the parameters that the document names."""

import ast
import inspect
import pathlib
import unittest

import tiesums
from samples import STAR
from tiesums import beside, blind, choosing, desk, failing, fractions, journals, nets, placing, readings, surveys, told, ways
from tiesums.desk import Desk
from tiesums.nets import Net
from tiesums.surveys import Survey

# For each file what the interface lists in it: the functions with their parameters.
FUNCTIONS = {
    ways: {"ways": "net", "along": "net way", "sums": "net costs"},
    told: {"told": "net weights", "shows_told": "net weights value", "tie_told": "net tie",
           "shows_tie_told": "net tie value", "sure_ties": "net", "whole": "net", "shows_whole": "net value",
           "base": "net", "shows_base": "net value"},
    blind: {"parts": "net", "edge": "net lot", "blind": "net", "shows_blind": "net value", "bent": "net lot",
            "shows_bent": "net lot value"},
    placing: {"least": "net", "shows_least": "net value", "gains": "net"},
    failing: {"groups": "net", "blame": "net failed most", "verdict": "net failed most"},
    readings: {"fitting": "net readings", "shows_fitting": "net readings value", "reckoned": "net readings weights",
               "shows_reckoned": "net readings weights value", "mended": "net readings",
               "shows_mended": "net readings value", "next_way": "net readings weights"},
    beside: {"within": "one other", "shows_within": "one other value", "alike": "one other",
             "shows_alike": "one other value"},
    choosing: {"cheapest": "net offers wishes", "shows_cheapest": "net offers wishes value"},
    journals: {"journal": "survey", "read_journal": "text"},
}

FOLDER = pathlib.Path(tiesums.__file__).parent


def defined(file, kind):
    """What the file itself defines at its top, by name."""
    tree = ast.parse((FOLDER / file).read_text())
    return {row.name: row for row in tree.body if isinstance(row, kind)}


class Interface(unittest.TestCase):

    def parameters(self, function):
        return [(one.name, one.default) for one in inspect.signature(function).parameters.values()]

    def test_fractions(self):
        self.assertLessEqual({"fraction", "total"}, set(defined("fractions.py", ast.FunctionDef)))
        none = inspect.Parameter.empty
        self.assertEqual(self.parameters(fractions.fraction), [("top", none), ("low", 1)])
        self.assertEqual(self.parameters(fractions.total), [("fractions", none), ("weights", None)])

    def test_functions_that_take_a_net(self):
        for module, functions in FUNCTIONS.items():
            self.assertLessEqual(set(functions), set(defined(pathlib.Path(module.__file__).name, ast.FunctionDef)))
            for name, names in functions.items():
                wanted = [(one, inspect.Parameter.empty) for one in names.split()]
                self.assertEqual(self.parameters(getattr(module, name)), wanted)

    def test_net_and_its_methods_stand_in_the_file(self):
        body = defined("nets.py", ast.ClassDef)["Net"].body
        methods = {row.name for row in body if isinstance(row, ast.FunctionDef)}
        wanted = {"tied", "with_watcher", "without_watcher", "with_tie", "without_tie",
                  "__len__", "__contains__", "__eq__", "__init__"}
        self.assertLessEqual(wanted, methods)

    def test_survey_and_desk_and_their_methods_stand_in_their_files(self):
        wanted = {"__init__": "net", "__len__": "", "__eq__": "other", "cost": "weights", "shows_cost": "weights value", "sure": "",
                  "next": "weights", "read": "way amount", "watch": "place", "undo": "", "redo": "", "trial": "", "keep": "",
                  "copy": ""}
        self.check_methods(Survey, "surveys.py", wanted)
        self.check_methods(Desk, "desk.py", {"__init__": "text", "say": "line"})
        tried = inspect.signature(Survey.tried).parameters
        self.assertEqual(list(tried), ["self", "look", "keep"])
        self.assertEqual((tried["keep"].kind, tried["keep"].default), (inspect.Parameter.KEYWORD_ONLY, False))
        self.assertIn("tried", vars(Survey))

    def check_methods(self, kind, file, wanted):
        body = defined(file, ast.ClassDef)[kind.__name__].body
        self.assertLessEqual(set(wanted), {row.name for row in body if isinstance(row, ast.FunctionDef)})
        for name, names in wanted.items():
            self.assertEqual([one for one, default in self.parameters(vars(kind)[name])], ["self", *names.split()])

    def test_attributes_of_survey_and_desk_are_set_when_they_are_made(self):
        survey = surveys.Survey(Net(STAR))
        for name, kind in (("net", Net), ("first", Net), ("readings", tuple), ("done", int)):
            self.assertIs(type(vars(survey)[name]), kind)
        self.assertIs(type(vars(desk.Desk(STAR + "\nsurvey"))["survey"]), Survey)

    def test_parameters_of_net(self):
        names = {Net: ["text"], Net.tied: ["self", "place"], Net.with_watcher: ["self", "place"],
                 Net.without_watcher: ["self", "place"], Net.with_tie: ["self", "one", "other"],
                 Net.without_tie: ["self", "one", "other"]}
        for function, wanted in names.items():
            self.assertEqual([name for name, default in self.parameters(function)], wanted)

    def test_attributes_of_net_are_set_when_it_is_made(self):
        net = nets.Net(STAR)
        for name, kind in (("text", str), ("places", tuple), ("watchers", tuple), ("ties", tuple)):
            self.assertIs(type(getattr(net, name)), kind)


if __name__ == "__main__":
    unittest.main()
