"""The names, arguments and files of the document's interface."""

import ast
import importlib
import inspect
import pathlib
import unittest

PACKAGE = pathlib.Path(__file__).parent.parent / "carryladder"

FUNCTIONS = {
    "machines": {"machine_error": "value", "written": "machine width words", "ending": "machine string"},
    "leastmachines": {"least": "machine", "alike": "one other", "parting": "one other"},
    "machinetexts": {"machine_text": "machine", "read_machine": "value"},
    "programs": {"program_error": "value", "book_of": "program", "neat": "program", "composed": "program parts"},
    "running": {"values": "program width words", "result": "program width words"},
    "programtexts": {"program_text": "program", "read_program": "value"},
    "tricks": {"lowest_one": "", "below_lowest": "", "without_lowest": "", "run_cleared": "", "times": "n", "gray": "",
               "ungray": "", "every": "n", "same_up_to": "", "greater": "", "carried": ""},
    "carrying": {"places": "program", "machine_of": "program"},
    "lookalikes": {"tells": "program machine", "wrong": "program machine", "same": "one other", "unlike": "one other"},
    "turnings": {"turning": "machine string", "turnings": "machine", "steady": "machine"},
    "rings": {"rings": "moves"},
    "rungs": {"stands": "machine book", "books_of": "machine"},
    "papers": {"paper": "machine book"},
    "paperjudge": {"paper_error": "machine book value"},
    "making": {"made": "machine book"},
    "onewidth": {"table_error": "value", "table_of": "program width", "hangs_above": "table", "at_width": "table"},
    "counting": {"lots": "machine width", "noughts": "machine width", "ones_at": "machine i",
                 "ones_in_all": "machine width"},
    "hanging": {"hangs": "machine j distance", "reach": "machine j"},
    "fewest": {"setters": "machine", "fewest": "machine", "made_with_fewest": "machine"},
    "benchlogs": {"log_text": "log", "read_log": "value", "bench_behind": "many value"},
}

# What each class defines itself, with the arguments behind the object.
CLASSES = {
    ("benches", "Bench"): {
        "__init__": "many", "__eq__": "other", "__ne__": "other", "many": "", "edits": "", "version": "", "names": "",
        "machine_named": "name", "program_named": "name", "tells": "one other", "put_machine": "name machine",
        "put_program": "name program", "make": "name of book", "take": "name of", "drop": "name", "undo": "",
        "twin": "",
    },
    ("shells", "Shell"): {"__init__": "", "say": "line"},
}


class InterfaceTest(unittest.TestCase):
    def test_functions_and_their_arguments(self):
        for module, functions in FUNCTIONS.items():
            held = importlib.import_module("carryladder." + module)
            for name, arguments in functions.items():
                found = inspect.signature(getattr(held, name)).parameters.values()
                self.assertEqual([parameter.name for parameter in found], arguments.split())
                for parameter in found:
                    self.assertEqual(parameter.kind, inspect.Parameter.POSITIONAL_OR_KEYWORD)

    def test_each_is_defined_in_its_own_file(self):
        for module, functions in FUNCTIONS.items():
            tree = ast.parse((PACKAGE / (module + ".py")).read_text())
            defined = [node.name for node in tree.body if isinstance(node, ast.FunctionDef)]
            for name in functions:
                self.assertEqual(defined.count(name), 1, name)

    def test_each_class_defines_its_methods_itself(self):
        for (module, name), methods in CLASSES.items():
            tree = ast.parse((PACKAGE / (module + ".py")).read_text())
            bodies = [node.body for node in tree.body if isinstance(node, ast.ClassDef) and node.name == name]
            self.assertEqual(len(bodies), 1, name)
            defined = {node.name: [argument.arg for argument in node.args.args] for node in bodies[0]
                       if isinstance(node, ast.FunctionDef)}
            for method, arguments in methods.items():
                self.assertEqual(defined.get(method), ["self"] + arguments.split(), method)

    def test_the_errors_are_defined_in_their_file(self):
        tree = ast.parse((PACKAGE / "errors.py").read_text())
        defined = [node.name for node in tree.body if isinstance(node, ast.ClassDef)]
        wanted = ["LadderError", "Unfit", "BadMachine", "BadProgram", "BadTable", "BadText", "BadLog", "TooMany",
                  "TooManyEdits", "NothingToUndo"]
        self.assertEqual(sorted(defined), sorted(wanted))


if __name__ == "__main__":
    unittest.main()
