"""The form of the code: where the interface is defined, and rules of LANGUAGE.md that a reader can count."""

import ast
import builtins
import os
import unittest

FOLDER = os.path.join(os.path.dirname(os.path.abspath(__file__)), "..", "maskedlevels")

# module: its functions with their parameters, and its classes with theirs and those of their methods.
FUNCTIONS = {
    "programs": {"is_word": "value"},
    "steps": {
        "is_store": "program value", "value_in": "program store name", "can_serve": "program procedure point mask",
    },
    "machine": {"is_move": "value", "played": "program script", "places_of": "program script"},
}
CLASSES = {
    "programs": {
        "Program": {
            "__init__": "levels size start procedures lines main guards", "levels": "", "size": "", "main": "",
            "cells": "", "sections": "", "procedures": "", "lines": "", "guards": "", "__getitem__": "procedure",
            "__contains__": "procedure", "line_of": "line", "guard_at": "procedure point", "first_store": "",
            "with_guards": "guards", "__eq__": "other",
        },
    },
    "machine": {
        "Machine": {
            "__init__": "program", "program": "", "store": "", "mask": "", "place": "", "frames": "", "at_rest": "",
            "moves": "", "__call__": "move", "copied": "", "play": "script",
        },
        "Board": {"__init__": "program", "arrive": "line", "pending": "", "step": "choice", "script": ""},
    },
}
PROPERTIES = {"levels", "size", "main", "program", "store", "mask"}
USED_BUILTINS = set(
    "len range enumerate zip min max sum abs sorted reversed int str bool bytes list tuple dict set frozenset "
    "isinstance ord repr any all divmod type super property staticmethod Exception ValueError TypeError KeyError "
    "IndexError LookupError NotImplemented NotImplementedError".split()
)
BARRED_WORDS = {
    "register", "mro", "elements", "open", "input", "law", "version_info", "with_traceback", "add_note", "eval",
    "exec", "id", "dir", "vars", "globals", "locals", "os", "sys",
}
BARRED_NODES = (
    ast.AsyncFunctionDef, ast.AsyncFor, ast.AsyncWith, ast.Await, ast.Lambda, ast.Global, ast.Import, ast.Div,
    ast.MatMult, ast.NamedExpr, ast.AnnAssign, ast.GeneratorExp,
)


def sources():
    """Each file of the package with its text."""
    texts = {}
    for name in sorted(os.listdir(FOLDER)):
        if name != "__pycache__":
            with open(os.path.join(FOLDER, name), encoding="utf-8") as file:
                texts[name] = file.read()
    return texts


def parameters(definition):
    return [arg.arg for arg in definition.args.args if arg.arg != "self"]


class InterfaceTest(unittest.TestCase):
    def setUp(self):
        self.trees = {name[:-3]: ast.parse(text) for name, text in sources().items()}

    def defined(self, module, kind):
        return {node.name: node for node in self.trees[module].body if isinstance(node, kind)}

    def test_each_function_is_defined_in_its_file(self):
        for module, functions in FUNCTIONS.items():
            found = self.defined(module, ast.FunctionDef)
            for name, told in functions.items():
                self.assertEqual(parameters(found[name]), told.split(), name)

    def test_each_method_is_defined_in_its_class(self):
        for module, classes in CLASSES.items():
            for name, methods in classes.items():
                body = self.defined(module, ast.ClassDef)[name].body
                found = {node.name: node for node in body if isinstance(node, ast.FunctionDef)}
                for method, told in methods.items():
                    self.assertEqual(parameters(found[method]), told.split(), method)
                    decorators = [ast.unparse(node) for node in found[method].decorator_list]
                    self.assertEqual(decorators, ["property"] if method in PROPERTIES else [], method)

    def test_errors_are_defined_in_their_file(self):
        self.assertEqual(len(self.defined("errors", ast.ClassDef)), 22)


class FormTest(unittest.TestCase):
    def test_the_folder_has_python_files_alone(self):
        for name in sources():
            self.assertRegex(name, r"^[a-z_]+\.py$")

    def test_sizes_and_signs(self):
        for name, text in sources().items():
            lines = text.split("\n")
            self.assertLessEqual(len(lines), 399, name)
            self.assertTrue(text.isascii() and "\t" not in text and "\r" not in text, name)
            self.assertLessEqual(max([len(line) for line in lines]), 120, name)
            for node in ast.walk(ast.parse(text)):
                if isinstance(node, ast.FunctionDef):
                    self.assertLessEqual(node.end_lineno - node.lineno + 1, 40, node.name)

    def test_imports_name_the_file_that_defines(self):
        texts = sources()
        for name, text in texts.items():
            for node in ast.walk(ast.parse(text)):
                if isinstance(node, ast.ImportFrom):
                    package, module = node.module.split(".")
                    self.assertEqual(package, "maskedlevels")
                    names = [other.name for other in ast.parse(texts[module + ".py"]).body if hasattr(other, "name")]
                    for alias in node.names:
                        self.assertIn(alias.name, names)

    def test_nodes_and_names(self):
        for name, text in sources().items():
            for node in ast.walk(ast.parse(text)):
                self.assertNotIsInstance(node, BARRED_NODES, name)
                if isinstance(node, ast.Constant):
                    self.assertNotIsInstance(node.value, (float, complex), name)
                if isinstance(node, ast.Name):
                    self.assertNotIn(node.id, BARRED_WORDS, name)
                    if node.id != "_" and hasattr(builtins, node.id):
                        self.assertIn(node.id, USED_BUILTINS, name)
                if isinstance(node, ast.arg):
                    self.assertFalse(hasattr(builtins, node.arg) or node.arg in BARRED_WORDS, node.arg)
                if isinstance(node, ast.Attribute):
                    self.assertNotIn(node.attr, BARRED_WORDS, name)

    def test_no_set_is_iterated_and_no_list_sorted_in_place(self):
        for name, text in sources().items():
            for node in ast.walk(ast.parse(text)):
                if isinstance(node, ast.Attribute):
                    self.assertNotEqual(node.attr, "sort", name)
                if isinstance(node, (ast.For, ast.comprehension)):
                    self.assertNotIsInstance(node.iter, (ast.Set, ast.SetComp), name)


if __name__ == "__main__":
    unittest.main()
