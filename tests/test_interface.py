"""The interface: each name stands in its file, with the arguments that the document lists."""

import ast
import doctest
import importlib
import inspect
import pathlib
import unittest

from claimfall import desks, errors

TOP = pathlib.Path(__file__).resolve().parent.parent
FUNCTIONS = {
    "facts": {
        "clash": ["facts"],
        "chain": ["facts", "fact"],
        "proves": ["facts", "fact", "thing"],
        "numbers_for": ["facts", "many"],
        "against": ["facts", "fact", "many"],
        "fulfil": ["values", "facts"],
    },
    "programs": {
        "check_program": ["program"],
        "index_of": ["program", "name"],
    },
    "paths": {
        "paths": ["program", "f"],
        "unknowns": ["program", "f", "path"],
    },
    "assignments": {
        "candidates": ["program", "numbers"],
        "facts_at": ["program", "f", "path", "item", "assignment"],
        "dues_at": ["program", "f", "path", "item", "assignment"],
        "open_facts": ["program", "place"],
        "is_kept": ["program", "assignment"],
        "holds": ["program", "assignment"],
    },
    "falling": {
        "strongest": ["program", "numbers"],
        "strongest_within": ["program", "assignment"],
        "is_let": ["program", "numbers"],
    },
    "papers": {
        "paper": ["program", "numbers"],
        "judge": ["program", "numbers", "thing"],
    },
    "ages": {
        "rounds_of": ["program", "numbers"],
        "ages": ["program", "numbers"],
    },
    "slices": {
        "callees": ["program", "f"],
        "reached": ["program"],
        "sliced": ["program"],
        "parts": ["program"],
        "part_of": ["program", "part"],
    },
    "measures": {
        "rings": ["program"],
        "descends": ["program", "assignment", "rank"],
        "rank_of": ["program", "numbers"],
    },
    "texts": {
        "format_program": ["program"],
        "read_program": ["text"],
    },
    "runs": {
        "check_call": ["program", "thing"],
        "run": ["program", "call", "most"],
        "trail": ["program", "call", "most"],
        "broken": ["program", "numbers", "call", "most"],
        "broken_within": ["program", "numbers", "bounds"],
        "wrong_call": ["program", "bounds"],
    },
    "least": {
        "number_table": ["program", "numbers"],
        "promise_table": ["program", "numbers", "place"],
        "all_promises_table": ["program", "numbers"],
        "table_paper": ["program", "numbers"],
        "judge_table": ["program", "numbers", "thing"],
        "needed": ["program", "numbers"],
        "short": ["program", "numbers"],
    },
    "causes": {
        "cause": ["program", "numbers", "f", "part", "quality"],
        "judge_cause": ["program", "numbers", "thing"],
    },
    "desks": {
        "replayed": ["numbers", "log"],
    },
}
METHODS = {
    "put": ["function"],
    "drop": ["name"],
    "let_in": ["name", "promises"],
    "shut": ["name"],
    "set_numbers": ["numbers"],
    "undo": [],
    "state": [],
    "report": [],
    "branch": [],
    "__eq__": ["other"],
}
PROPERTIES = ("numbers", "functions", "opens", "log")
ERRORS = {
    "BadProgram": ["function", "reason"],
    "BadText": ["line", "reason"],
    "BadEntry": ["place"],
    "BadState": [],
    "TooGreat": [],
}


def defined_in(word, kind):
    tree = ast.parse((TOP / "claimfall" / (word + ".py")).read_text())
    return [node.name for node in tree.body if isinstance(node, kind)]


class Interface(unittest.TestCase):
    def test_functions_are_defined_in_their_files(self):
        for word, functions in FUNCTIONS.items():
            module = importlib.import_module("claimfall." + word)
            for name, arguments in functions.items():
                with self.subTest(name):
                    self.assertIn(name, defined_in(word, ast.FunctionDef))
                    self.assertEqual(list(inspect.signature(getattr(module, name)).parameters), arguments)

    def test_errors_are_defined_in_their_file(self):
        names = defined_in("errors", ast.ClassDef)
        self.assertEqual(sorted(names), sorted(["ClaimError", *ERRORS]))

    def test_the_desk_is_defined_in_its_file_with_all_of_its_methods(self):
        self.assertEqual(defined_in("desks", ast.ClassDef), ["Desk"])
        self.assertEqual(list(inspect.signature(desks.Desk).parameters), ["numbers"])
        for name, arguments in METHODS.items():
            with self.subTest(name):
                self.assertIn(name, vars(desks.Desk))
                self.assertEqual(list(inspect.signature(getattr(desks.Desk, name)).parameters)[1:], arguments)

    def test_the_properties_of_a_desk(self):
        desk = desks.Desk((0,))
        for name in PROPERTIES:
            with self.subTest(name):
                self.assertIsInstance(vars(desks.Desk)[name], property)
                self.assertIsNone(vars(desks.Desk)[name].fset)
                self.assertIs(type(getattr(desk, name)), list if name == "log" else tuple)

    def test_each_file_of_the_interface_is_looked_at(self):
        headings = "errors facts programs paths assignments falling papers ages slices measures texts runs least causes desks".split()
        self.assertEqual(sorted([*FUNCTIONS, "errors"]), sorted(headings))

    def test_claim_error_is_a_value_error(self):
        self.assertTrue(issubclass(errors.ClaimError, ValueError))

    def test_errors_are_under_claim_error_and_no_other(self):
        for name in ERRORS:
            with self.subTest(name):
                self.assertEqual(getattr(errors, name).__bases__, (errors.ClaimError,))

    def test_errors_keep_their_attributes(self):
        for name, attributes in ERRORS.items():
            with self.subTest(name):
                values = [7, "some reason"][:len(attributes)]
                error = getattr(errors, name)(*values)
                self.assertEqual([getattr(error, attribute) for attribute in attributes], values)
                with self.assertRaises(errors.ClaimError):
                    raise error

    def test_errors_without_attributes_take_a_message(self):
        self.assertEqual(str(errors.BadState("why")), "why")
        self.assertEqual(str(errors.TooGreat("why")), "why")

    def test_the_readme_tells_what_happens(self):
        self.assertEqual(doctest.testfile(str(TOP / "README.md"), module_relative=False).failed, 0)


if __name__ == "__main__":
    unittest.main()
