"""The interface: each name stands in its file, with the arguments that the document lists."""

import ast
import doctest
import importlib
import inspect
import pathlib
import unittest

from claimfall import errors

TOP = pathlib.Path(__file__).resolve().parent.parent
FUNCTIONS = {
    "facts": {
        "clash": ["facts"],
        "chain": ["facts", "fact"],
        "proves": ["facts", "fact", "thing"],
        "numbers_for": ["facts", "many"],
        "against": ["facts", "fact", "many"],
        "fulfil": ["values", "facts"],
    },
    "programs": {
        "check_program": ["program"],
        "index_of": ["program", "name"],
    },
    "paths": {
        "paths": ["program", "f"],
        "unknowns": ["program", "f", "path"],
    },
    "assignments": {
        "candidates": ["program", "numbers"],
        "facts_at": ["program", "f", "path", "item", "assignment"],
        "dues_at": ["program", "f", "path", "item", "assignment"],
        "open_facts": ["program", "place"],
        "is_kept": ["program", "assignment"],
        "holds": ["program", "assignment"],
    },
    "falling": {
        "strongest": ["program", "numbers"],
        "strongest_within": ["program", "assignment"],
        "is_let": ["program", "numbers"],
    },
    "papers": {
        "paper": ["program", "numbers"],
        "judge": ["program", "numbers", "thing"],
    },
}
ERRORS = {
    "BadProgram": ["function", "reason"],
    "BadText": ["line", "reason"],
    "BadEntry": ["place"],
    "BadState": [],
    "TooGreat": [],
}


def defined_in(word, kind):
    tree = ast.parse((TOP / "claimfall" / (word + ".py")).read_text())
    return [node.name for node in tree.body if isinstance(node, kind)]


class Interface(unittest.TestCase):
    def test_functions_are_defined_in_their_files(self):
        for word, functions in FUNCTIONS.items():
            module = importlib.import_module("claimfall." + word)
            for name, arguments in functions.items():
                with self.subTest(name):
                    self.assertIn(name, defined_in(word, ast.FunctionDef))
                    self.assertEqual(list(inspect.signature(getattr(module, name)).parameters), arguments)

    def test_errors_are_defined_in_their_file(self):
        names = defined_in("errors", ast.ClassDef)
        self.assertEqual(sorted(names), sorted(["ClaimError", *ERRORS]))

    def test_claim_error_is_a_value_error(self):
        self.assertTrue(issubclass(errors.ClaimError, ValueError))

    def test_errors_are_under_claim_error_and_no_other(self):
        for name in ERRORS:
            with self.subTest(name):
                self.assertEqual(getattr(errors, name).__bases__, (errors.ClaimError,))

    def test_errors_keep_their_attributes(self):
        for name, attributes in ERRORS.items():
            with self.subTest(name):
                values = [7, "some reason"][:len(attributes)]
                error = getattr(errors, name)(*values)
                self.assertEqual([getattr(error, attribute) for attribute in attributes], values)
                with self.assertRaises(errors.ClaimError):
                    raise error

    def test_errors_without_attributes_take_a_message(self):
        self.assertEqual(str(errors.BadState("why")), "why")
        self.assertEqual(str(errors.TooGreat("why")), "why")

    def test_the_readme_tells_what_happens(self):
        self.assertEqual(doctest.testfile(str(TOP / "README.md"), module_relative=False).failed, 0)


if __name__ == "__main__":
    unittest.main()
