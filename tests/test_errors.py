"""Point 16, and what point 2 says of errors."""

import ast
import copy
import pathlib
import unittest

from samples import any_values
from tiesums import errors
from tiesums.errors import TieError

NAMES = """TieError, BadNumber, BadFractions, BadNet, NoPlace, Watches, NoWatcher, Few, BadTie, Full, Last, BadWay,
BadCosts, BadWeights, NoTie, BadPart, NotBlind, BadFailed, NoBlame, BadReadings, Torn, OtherTies, BadOffers, BadWishes,
NothingToUndo, NothingToRedo, NoTrial, BadJournal, BadLine""".replace("\n", " ").replace(",", " ").split()


class Errors(unittest.TestCase):

    def setUp(self):
        self.classes = [getattr(errors, name) for name in NAMES]

    def test_the_interface_names_29(self):
        self.assertEqual(len(set(NAMES)), 29)

    def test_they_are_classes_of_their_names(self):
        for name, kind in zip(NAMES, self.classes):
            self.assertIsInstance(kind, type)
            self.assertEqual((kind.__name__, kind.__module__), (name, "tiesums.errors"))

    def test_tie_error_is_directly_below_value_error(self):
        self.assertEqual(TieError.__bases__, (ValueError,))

    def test_all_others_are_directly_below_tie_error(self):
        for kind in self.classes[1:]:
            self.assertEqual(kind.__bases__, (TieError,), kind.__name__)

    def test_none_is_of_another_ones_kind(self):
        for kind in self.classes:
            error = kind(1)
            self.assertIsInstance(error, TieError)
            self.assertIsInstance(error, ValueError)
            kinds = [other for other in self.classes if isinstance(error, other)]
            self.assertEqual(kinds, [TieError] if kind is TieError else [TieError, kind])

    def test_each_keeps_any_value(self):
        for kind in self.classes:
            for value in any_values() + [kind(1), kind([None])]:
                self.assertIs(kind(value).value, value)

    def test_value_is_not_changed(self):
        for kind in self.classes:
            value = [1, {"a": (2, [3])}]
            before = copy.deepcopy(value)
            kind(value)
            self.assertEqual(value, before)

    def test_each_can_be_raised_and_caught(self):
        for kind in self.classes:
            for catching in (kind, TieError, ValueError):
                with self.assertRaises(catching) as caught:
                    raise kind(("a", "m"))
                self.assertEqual(caught.exception.value, ("a", "m"))

    def test_one_argument_is_needed_and_enough(self):
        for kind in self.classes:
            with self.assertRaises(TypeError):
                kind()
            with self.assertRaises(TypeError):
                kind(1, 2)

    def test_each_can_be_shown(self):
        for kind in self.classes:
            for value in any_values():
                self.assertIsInstance(str(kind(value)), str)
                self.assertIsInstance(repr(kind(value)), str)

    def test_they_are_defined_in_their_file(self):
        tree = ast.parse(pathlib.Path(errors.__file__).read_text())
        defined = [row.name for row in tree.body if isinstance(row, ast.ClassDef)]
        self.assertEqual(defined, NAMES)


if __name__ == "__main__":
    unittest.main()
