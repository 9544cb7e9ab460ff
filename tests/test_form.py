"""The form of the code: where the interface is defined, and rules of LANGUAGE.md that a reader can count."""

import ast
import builtins
import os
import unittest

FOLDER = os.path.join(os.path.dirname(os.path.abspath(__file__)), "..", "maskedlevels")

# module: its functions with their parameters, and its classes with theirs and those of their methods.
FUNCTIONS = {
    "programs": {"is_word": "value"},
    "steps": {
        "is_store": "program value", "value_in": "program store name", "can_serve": "program procedure point mask",
    },
    "machine": {"is_move": "value", "played": "program script", "places_of": "program script"},
    "relations": {
        "outcomes": "program beginning", "served": "program line store", "between": "program level store",
        "relation_of": "program line stores",
    },
    "reached": {
        "places": "program", "can_come": "program value", "seen_at": "program procedure point",
        "meetings": "program section", "masks_at": "program procedure point", "script_to": "program place",
    },
    "tables": {
        "table_of": "program", "is_table": "program value", "more_of": "program table", "joined": "program *tables",
    },
    "claims": {"holds": "program claim", "is_shown": "program value claim", "against": "program claim"},
    "notes": {
        "write_move": "move", "read_move": "word", "write_script": "script", "read_script": "text",
        "write_program": "program", "read_program": "note",
    },
    "masks": {"masks_left": "program procedure", "keeps": "program procedure", "left_script": "program procedure"},
    "starving": {
        "starved": "program", "starving": "program line", "endless": "program *, arrivals",
        "endless_ring": "program floor *, arrivals",
    },
    "stretches": {"longest": "program level", "stretch_ring": "program level", "stretch_script": "program level"},
    "piles": {"deepest": "program sizes", "pile_script": "program sizes"},
    "mends": {"is_met": "program wish"},
    "likeness": {"alike": "one other", "difference": "one other"},
    "sessions": {"attempted": "session changes *, fast"},
    "pairs": {"pair_sights": "program one other", "is_torn": "program one other", "torn_script": "program one other"},
    "books": {"book_of": "program", "is_book": "program value", "lacking": "program pages"},
    "numbers": {"numbered": "program wish", "is_proved": "program value wish"},
    "partbooks": {
        "part_of": "program names", "is_part": "program names value", "demands": "program names part",
        "unkept": "program parts", "untouched": "program other", "joined_book": "program parts",
    },
    "waits": {
        "longest_wait": "program line allowance", "wait_script": "program line allowance",
        "wait_ring": "program line allowance",
    },
    "sights": {
        "has_word": "program word", "show_alike": "one other", "word_script": "program word",
        "all_words": "program many", "parting_word": "one other",
    },
    "shortest": {
        "shortest_scripts": "program claim", "how_many_shortest": "program claim", "fewest_moves": "program claim",
    },
    "counting": {"many_states": "program"},
    "sheets": {
        "write_place": "program place", "write_entry": "program entry", "write_table": "program table",
        "write_claim": "program claim", "read_place": "program word", "read_entry": "program word",
        "read_claim": "program text", "read_table": "program text",
    },
}
CLASSES = {
    "programs": {
        "Program": {
            "__init__": "levels size start procedures lines main guards", "levels": "", "size": "", "main": "",
            "cells": "", "sections": "", "procedures": "", "lines": "", "guards": "", "__getitem__": "procedure",
            "__contains__": "procedure", "line_of": "line", "guard_at": "procedure point", "first_store": "",
            "with_guards": "guards", "__eq__": "other",
        },
    },
    "machine": {
        "Machine": {
            "__init__": "program", "program": "", "store": "", "mask": "", "place": "", "frames": "", "at_rest": "",
            "moves": "", "__call__": "move", "copied": "", "play": "script",
        },
        "Board": {"__init__": "program", "arrive": "line", "pending": "", "step": "choice", "script": ""},
    },
    "relations": {
        "Relation": {
            "__init__": "pairs", "pairs": "", "stores": "", "__contains__": "pair", "__len__": "", "__call__": "store",
            "__or__": "other", "__and__": "other", "__sub__": "other", "__mul__": "other", "__le__": "other",
            "__eq__": "other", "turned": "", "closed": "stores", "same": "stores",
        },
    },
    "mends": {
        "Mend": {
            "__init__": "program menu wishes", "behind": "choice", "unmet": "choice", "mending": "", "least": "", "__len__": "",
        },
    },
    "sessions": {
        "Session": {"__init__": "program", "guarded": "", "guard": "procedure point level", "undo": "", "__len__": ""},
        "Attempt": {"__init__": "session", "__enter__": "", "__exit__": "kind value trace", "hold_fast": ""},
    },
    "consoles": {"Console": {"__init__": "program", "say": "row"}},
    "counting": {
        "Scripts": {
            "__init__": "program moves", "length": "", "amount": "", "__getitem__": "number", "__contains__": "script",
            "number_of": "script", "each": "",
        },
    },
    "guarded": {
        "Guarded": {
            "__init__": "program *claims", "claims": "", "__call__": "move", "held_moves": "", "play": "script",
        },
    },
}
DECORATORS = {
    "Program": {"levels": "property", "size": "property", "main": "property"},
    "Machine": {"program": "property", "store": "property", "mask": "property"},
    "Relation": {"same": "staticmethod"},
    "Scripts": {"length": "property", "amount": "property"},
}
USED_BUILTINS = set(
    "len range enumerate zip min max sum abs sorted reversed int str bool bytes list tuple dict set frozenset "
    "isinstance ord repr any all divmod type super property staticmethod Exception ValueError TypeError KeyError "
    "IndexError LookupError NotImplemented NotImplementedError".split()
)
BARRED_WORDS = {
    "register", "mro", "elements", "open", "input", "law", "version_info", "with_traceback", "add_note", "eval",
    "exec", "id", "dir", "vars", "globals", "locals", "os", "sys",
}
BARRED_NODES = (
    ast.AsyncFunctionDef, ast.AsyncFor, ast.AsyncWith, ast.Await, ast.Lambda, ast.Global, ast.Import, ast.Div,
    ast.MatMult, ast.NamedExpr, ast.AnnAssign, ast.GeneratorExp,
)


def sources():
    """Each file of the package with its text."""
    texts = {}
    for name in sorted(os.listdir(FOLDER)):
        if name != "__pycache__":
            with open(os.path.join(FOLDER, name), encoding="utf-8") as file:
                texts[name] = file.read()
    return texts


def parameters(definition):
    found = [arg.arg for arg in definition.args.args if arg.arg != "self"]
    if definition.args.vararg is not None:
        found.append("*" + definition.args.vararg.arg)
    if definition.args.kwonlyargs:
        found.extend(["*,", *[arg.arg for arg in definition.args.kwonlyargs]])
    return found


class InterfaceTest(unittest.TestCase):
    def setUp(self):
        self.trees = {name[:-3]: ast.parse(text) for name, text in sources().items()}

    def defined(self, module, kind):
        return {node.name: node for node in self.trees[module].body if isinstance(node, kind)}

    def test_each_function_is_defined_in_its_file(self):
        for module, functions in FUNCTIONS.items():
            found = self.defined(module, ast.FunctionDef)
            for name, told in functions.items():
                self.assertEqual(parameters(found[name]), told.split(), name)

    def test_each_method_is_defined_in_its_class(self):
        for module, classes in CLASSES.items():
            for name, methods in classes.items():
                body = self.defined(module, ast.ClassDef)[name].body
                found = {node.name: node for node in body if isinstance(node, ast.FunctionDef)}
                for method, told in methods.items():
                    self.assertEqual(parameters(found[method]), told.split(), method)
                    decorators = [ast.unparse(node) for node in found[method].decorator_list]
                    wanted = DECORATORS.get(name, {}).get(method)
                    self.assertEqual(decorators, [] if wanted is None else [wanted], method)

    def test_errors_are_defined_in_their_file(self):
        self.assertEqual(len(self.defined("errors", ast.ClassDef)), 22)


class FormTest(unittest.TestCase):
    def test_the_folder_has_python_files_alone(self):
        for name in sources():
            self.assertRegex(name, r"^[a-z_]+\.py$")

    def test_sizes_and_signs(self):
        for name, text in sources().items():
            lines = text.split("\n")
            self.assertLessEqual(len(lines), 399, name)
            self.assertTrue(text.isascii() and "\t" not in text and "\r" not in text, name)
            self.assertLessEqual(max([len(line) for line in lines]), 120, name)
            for node in ast.walk(ast.parse(text)):
                if isinstance(node, ast.FunctionDef):
                    self.assertLessEqual(node.end_lineno - node.lineno + 1, 40, node.name)

    def test_imports_name_the_file_that_defines(self):
        texts = sources()
        for name, text in texts.items():
            for node in ast.walk(ast.parse(text)):
                if isinstance(node, ast.ImportFrom):
                    package, module = node.module.split(".")
                    self.assertEqual(package, "maskedlevels")
                    body = ast.parse(texts[module + ".py"]).body
                    names = [other.name for other in body if hasattr(other, "name")]
                    names.extend(other.targets[0].id for other in body if isinstance(other, ast.Assign))
                    for alias in node.names:
                        self.assertIn(alias.name, names)

    def test_nodes_and_names(self):
        for name, text in sources().items():
            for node in ast.walk(ast.parse(text)):
                self.assertNotIsInstance(node, BARRED_NODES, name)
                if isinstance(node, ast.Constant):
                    self.assertNotIsInstance(node.value, (float, complex), name)
                if isinstance(node, ast.Name):
                    self.assertNotIn(node.id, BARRED_WORDS, name)
                    if node.id != "_" and hasattr(builtins, node.id):
                        self.assertIn(node.id, USED_BUILTINS, name)
                if isinstance(node, ast.arg):
                    self.assertFalse(hasattr(builtins, node.arg) or node.arg in BARRED_WORDS, node.arg)
                if isinstance(node, ast.Attribute):
                    self.assertNotIn(node.attr, BARRED_WORDS, name)

    def test_no_set_is_iterated_and_no_list_sorted_in_place(self):
        for name, text in sources().items():
            for node in ast.walk(ast.parse(text)):
                if isinstance(node, ast.Attribute):
                    self.assertNotEqual(node.attr, "sort", name)
                if isinstance(node, (ast.For, ast.comprehension)):
                    self.assertNotIsInstance(node.iter, (ast.Set, ast.SetComp), name)

    def test_what_is_sorted_has_a_key(self):
        # A class of the package has an order of its own, so nothing is sorted or compared by it.
        for name, text in sources().items():
            for node in ast.walk(ast.parse(text)):
                if isinstance(node, ast.Call) and isinstance(node.func, ast.Name) and node.func.id in ("sorted", "min", "max"):
                    keys = [word.value.id for word in node.keywords if word.arg == "key"]
                    self.assertEqual(len(keys), 1, name)
                    self.assertIn(keys[0], ("str", "int", "len"), name)

    def test_no_file_imports_in_a_ring(self):
        found = {}
        for name, text in sources().items():
            nodes = [node for node in ast.walk(ast.parse(text)) if isinstance(node, ast.ImportFrom)]
            found[name[:-3]] = {node.module.split(".")[1] for node in nodes}
        while found:
            done = [name for name, needed in found.items() if not needed & set(found)]
            self.assertTrue(done, found)
            found = {name: needed for name, needed in found.items() if name not in done}

    def test_locals_have_no_name_of_an_import_or_a_class(self):
        for name, text in sources().items():
            tree = ast.parse(text)
            bound = {alias.name for node in tree.body if isinstance(node, ast.ImportFrom) for alias in node.names}
            bound |= {node.name for node in tree.body if isinstance(node, ast.ClassDef)}
            stored = [node.id for node in ast.walk(tree) if isinstance(node, ast.Name) and isinstance(node.ctx, ast.Store)]
            stored.extend(node.arg for node in ast.walk(tree) if isinstance(node, ast.arg))
            self.assertFalse(bound & set(stored), name)

    def test_methods_and_attributes_have_unlike_names(self):
        methods, attributes = set(), set()
        for text in sources().values():
            for node in ast.walk(ast.parse(text)):
                if isinstance(node, ast.ClassDef):
                    methods |= {part.name for part in node.body if isinstance(part, ast.FunctionDef)}
                if isinstance(node, ast.Attribute) and isinstance(node.ctx, ast.Store):
                    attributes.add(node.attr)
        self.assertFalse(methods & attributes)
        for kind in (str, int, list, dict, set, bytes):
            self.assertFalse((methods - {"__init__"}) & {name for name in dir(kind) if not name.startswith("__")})


if __name__ == "__main__":
    unittest.main()
