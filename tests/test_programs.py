"""[3], [4]: which programs can be made, and which part is told to be wrong."""

import copy
import string
import unittest

from maskedlevels.errors import BadProgram
from maskedlevels.programs import Program, is_word
from tests.values import odd_values, one_row, small_parts, small_program

WORDS = list(string.ascii_lowercase)

# Each sort of row, right, for a program with cells c, d, with n = 3, k = 2, and one row.
RIGHT_ROWS = [
    ("set", "c", 0), ("set", "d", 2), ("copy", "c", "d"), ("copy", "c", "c"), ("add", "c", 0), ("add", "c", 2),
    ("any", "c"), ("look", "d"), ("if", "c", 0, 0), ("if", "c", 2, 1), ("go", 0), ("go", 1), ("either", 0),
    ("either", 1), ("call", "sub"), ("raise", 0), ("raise", 2), ("mask", 0), ("mask", 2), ("save", "c"),
    ("load", "d"), ("keep",), ("give",), ("open", "s"), ("close", "s"), ("open", "sub"), ("close", "main"),
]
# For each sort of part: values that are none.
WRONG_PARTS = {
    "cell": ["e", "main", "s", "C", 0],
    "value": [-1, 3, "c"],
    "point": [-1, 2, "sub"],
    "procedure": ["other", "c", 0],
    "level": [-1, 3, "t"],
    "section": ["c", "d", "Big", "abcdefghi", 0],
}
PARTS = {
    "set": ["cell", "value"], "copy": ["cell", "cell"], "add": ["cell", "value"], "any": ["cell"], "look": ["cell"],
    "if": ["cell", "value", "point"], "go": ["point"], "either": ["point"], "call": ["procedure"],
    "raise": ["level"], "mask": ["level"], "save": ["cell"], "load": ["cell"], "keep": [], "give": [],
    "open": ["section"], "close": ["section"],
}


class WordsTest(unittest.TestCase):
    def test_words(self):
        for word in [*WORDS, "ab", "abcdefgh", "zzzzzzzz", "main", "set"]:
            self.assertIs(is_word(word), True, word)
        self.assertIs(is_word(value="tick"), True)

    def test_what_is_no_word(self):
        for value in odd_values():
            self.assertIs(is_word(value), False)
        for value in ["", "abcdefghi", "a" * 10000, "A", "aB", "a1", "a b", "a\n", "`", "{", "\u00df", "\uff41"]:
            self.assertIs(is_word(value), False, value)


class BoundsTest(unittest.TestCase):
    def refused(self, part, **changes):
        with self.assertRaises(BadProgram) as caught:
            Program(**small_parts(**changes))
        self.assertEqual(caught.exception.part, part)

    def refused_row(self, row, **changes):
        with self.assertRaises(BadProgram) as caught:
            one_row(row, **changes)
        self.assertEqual(caught.exception.part, "procedures", row)

    def test_levels(self):
        for levels in (1, 2, 3, 4):
            program = Program(levels, 6, {"x": 0}, {"main": []}, {"t": (levels, "main")})
            self.assertEqual(program.levels, levels)
        for levels in [0, 5, -1, 2.0, "2", *odd_values()]:
            self.refused("levels", levels=levels)

    def test_size(self):
        for size in (2, 3, 4, 5, 6):
            program = Program(1, size, {"x": size - 1}, {"main": []}, {})
            self.assertEqual(program.size, size)
        for size in [1, 0, 7, 3.0, "3", *odd_values()]:
            self.refused("size", size=size)

    def test_how_many_cells(self):
        for many in range(1, 7):
            start = {cell: 1 for cell in WORDS[:many]}
            self.assertEqual(Program(1, 2, start, {"main": []}, {}).cells(), WORDS[:many])
        for many in (0, 7):
            with self.assertRaises(BadProgram) as caught:
                Program(1, 2, {cell: 1 for cell in WORDS[:many]}, {"main": []}, {})
            self.assertEqual(caught.exception.part, "start")

    def test_at_most_256_stores_of_the_cells(self):
        most = {2: 6, 3: 5, 4: 4, 5: 3, 6: 3}
        for size, many in most.items():
            start = {cell: 0 for cell in WORDS[:many]}
            self.assertEqual(len(Program(1, size, start, {"main": []}, {}).cells()), many)
            with self.assertRaises(BadProgram) as caught:
                Program(1, size, {cell: 0 for cell in WORDS[:many + 1]}, {"main": []}, {})
            self.assertEqual(caught.exception.part, "start")

    def test_sections_do_not_count_among_the_stores(self):
        rows = [("open", "x"), ("open", "y"), ("close", "z")]
        program = Program(1, 4, {cell: 0 for cell in WORDS[:4]}, {"main": rows}, {})
        self.assertEqual(len(program.first_store()), 7)

    def test_start(self):
        for value in (0, 1, 2):
            self.assertEqual(small_program(start={"x": value, "y": 0}).first_store(), (value, 0, 0))
        for value in [-1, 3, 1.0, "1", *odd_values()]:
            self.refused("start", start={"x": value, "y": 0})
        for cell in ["X", "", "abcdefghi", 1, None, ("x",), True, b"x", Stub(), frozenset()]:
            self.refused("start", start={cell: 0, "x": 0, "y": 0})
        for start in [[("x", 0)], (), "x", {"x"}, *odd_values()]:
            self.refused("start", start=start)

    def test_how_many_procedures(self):
        for many in (1, 12):
            procedures = {name: [] for name in WORDS[:many]}
            program = Program(1, 2, {"x": 0}, procedures, {}, "a")
            self.assertEqual(program.procedures(), WORDS[:many])
        for many in (0, 13):
            with self.assertRaises(BadProgram) as caught:
                Program(1, 2, {"x": 0}, {name: [] for name in WORDS[:many]}, {}, "a")
            self.assertEqual(caught.exception.part, "procedures")

    def test_how_many_rows(self):
        for many in (0, 1, 24):
            rows = [("look", "x")] * many
            self.assertEqual(Program(1, 2, {"x": 0}, {"main": rows}, {})["main"], rows)
        with self.assertRaises(BadProgram) as caught:
            Program(1, 2, {"x": 0}, {"main": [("look", "x")] * 25}, {})
        self.assertEqual(caught.exception.part, "procedures")

    def test_procedures_of_other_kinds(self):
        for procedures in [*odd_values(), {"main": ()}, {"main": None}, {"main": "keep"}, {"main": {}}]:
            self.refused("procedures", procedures=procedures, lines={}, guards=None)
        for name in ["Main", "", "abcdefghi", 1, None, ("main",), True, b"main", Stub(), frozenset()]:
            self.refused("procedures", procedures={"main": [], name: []}, lines={}, guards=None)
        for rows in [odd for odd in odd_values() if type(odd) is not list]:
            self.refused("procedures", procedures={"main": rows}, lines={}, guards=None)

    def test_how_many_lines(self):
        for many in range(7):
            lines = {line: (1, "main") for line in WORDS[:many]}
            self.assertEqual(small_program(lines=lines).lines(), WORDS[:many])
        self.refused("lines", lines={line: (1, "main") for line in WORDS[:7]})

    def test_lines(self):
        for level in (1, 2):
            self.assertEqual(small_program(lines={"t": (level, "sub")}).line_of("t"), (level, "sub"))
        for level in [0, 3, 1.0, "1", *odd_values()]:
            self.refused("lines", lines={"t": (level, "sub")})
        for procedure in ["other", "x", "tick", *odd_values()]:
            self.refused("lines", lines={"t": (1, procedure)})
        for served in [[1, "sub"], (1,), (1, "sub", 0), ("sub", 1), "sub", *odd_values()]:
            self.refused("lines", lines={"t": served})
        for line in ["T", "", "abcdefghi", 1, None, ("t",), True, b"t", Stub(), frozenset()]:
            self.refused("lines", lines={line: (1, "sub"), "t": (1, "sub")})
        for lines in [[], (), "t", *[odd for odd in odd_values() if type(odd) is not dict]]:
            self.refused("lines", lines=lines)

    def test_main(self):
        self.assertEqual(small_program(main="sub").main, "sub")
        parts = small_parts()
        del parts["main"]
        self.assertEqual(Program(**parts).main, "main")
        for main in ["other", "x", "tick", *odd_values()]:
            self.refused("main", main=main)
        with self.assertRaises(BadProgram) as caught:
            Program(1, 2, {"x": 0}, {"other": []}, {})
        self.assertEqual(caught.exception.part, "main")

    def test_guards(self):
        for point in (0, 3, 4):
            for level in (1, 2):
                guards = {("main", point): level}
                self.assertEqual(small_program(guards=guards).guards(), guards)
        self.assertEqual(small_program(guards={}).guards(), {})
        self.assertEqual(small_program(guards=None).guards(), {})
        for point in [-1, 5, 1.0, "1", *[odd for odd in odd_values() if not is_unhashable(odd)]]:
            self.refused("guards", guards={("main", point): 1})
        for name in ["other", "x", *[odd for odd in odd_values() if not is_unhashable(odd)]]:
            self.refused("guards", guards={(name, 0): 1})
        for level in [0, 3, 1.0, "1", *odd_values()]:
            self.refused("guards", guards={("main", 0): level})
        for spot in ["main", ("main",), ("main", 0, 1), (0, "main"), 0, None, frozenset()]:
            self.refused("guards", guards={spot: 1})
        for guards in [[], (), "", 0, [("main", 0, 1)], *odd_values()]:
            if guards is not None and not (type(guards) is dict and len(guards) == 0):
                self.refused("guards", guards=guards)

    def test_the_bounds_of_guards_with_one_level(self):
        program = Program(1, 2, {"x": 0}, {"main": [("keep",)] * 24}, {}, guards={("main", 24): 1, ("main", 0): 1})
        self.assertEqual(program.guard_at("main", 24), 1)
        for guards in [{("main", 25): 1}, {("main", 0): 2}]:
            with self.assertRaises(BadProgram) as caught:
                Program(1, 2, {"x": 0}, {"main": [("keep",)] * 24}, {}, guards=guards)
            self.assertEqual(caught.exception.part, "guards")

    def test_the_first_of_two_wrong_parts_is_told(self):
        wrong = [
            ("levels", 0), ("size", 7), ("start", {}), ("procedures", {}), ("lines", []), ("main", "other"),
            ("guards", []),
        ]
        for at, (first, one) in enumerate(wrong):
            self.refused(first, **{first: one})
            for second, other in wrong[at + 1:]:
                self.refused(first, **{first: one, second: other})
        self.refused("levels", **dict(wrong))

    def test_parts_are_taken_in_their_order(self):
        procedures = {"first": [("set", "c", 1)], "clock": []}
        program = Program(1, 2, {"c": 1}, procedures, {"t": (1, "clock")}, "first", {("first", 1): 1})
        self.assertEqual((program.levels, program.size, program.main), (1, 2, "first"))
        self.assertEqual(program.guards(), {("first", 1): 1})

    def test_nothing_that_is_given_is_changed(self):
        parts = small_parts()
        before = copy.deepcopy(parts)
        Program(**parts)
        self.assertEqual(parts, before)
        self.assertEqual([list(parts[part]) for part in ("start", "procedures", "lines", "guards")],
                         [list(before[part]) for part in ("start", "procedures", "lines", "guards")])

    def test_each_sort_of_row_right(self):
        for row in RIGHT_ROWS:
            with self.subTest(row=row):
                self.assertEqual(one_row(row)["main"], [row])
        self.assertEqual({row[0] for row in RIGHT_ROWS}, set(PARTS))

    def test_each_sort_of_row_with_each_part_wrong(self):
        for row in RIGHT_ROWS:
            for at, sort in enumerate(PARTS[row[0]], 1):
                for value in WRONG_PARTS[sort] + odd_values():
                    self.refused_row(row[:at] + (value,) + row[at + 1:])

    def test_rows_with_parts_too_few_or_too_many(self):
        for row in RIGHT_ROWS:
            self.refused_row(row[:-1])
            self.refused_row(row + (0,))
            self.refused_row(row + ("c",))

    def test_rows_of_other_kinds(self):
        for row in [list(RIGHT_ROWS[0]), "keep", ("jump", 0), ("Keep",), ((),), ("if",), *odd_values()]:
            self.refused_row(row)
        for kind in odd_values():
            self.refused_row((kind,))
            self.refused_row((kind, "c", 0))

    def test_points_reach_to_the_end_of_their_own_procedure(self):
        rows = [("go", 3), ("either", 3), ("if", "x", 0, 3)]
        program = Program(1, 2, {"x": 0}, {"main": rows, "sub": [("keep",)] * 9}, {})
        self.assertEqual(program["main"], rows)
        for row in [("go", 4), ("either", 4), ("if", "x", 0, 4)]:
            with self.assertRaises(BadProgram) as caught:
                Program(1, 2, {"x": 0}, {"main": rows[:2] + [row], "sub": [("keep",)] * 9}, {})
            self.assertEqual(caught.exception.part, "procedures")

    def test_save_only_where_k_is_less_than_n(self):
        for levels in range(1, 5):
            for size in range(2, 7):
                changes = {"levels": levels, "size": size, "lines": {}}
                if levels < size:
                    self.assertEqual(one_row(("save", "c"), **changes)["main"], [("save", "c")])
                else:
                    self.refused_row(("save", "c"), **changes)
                self.assertEqual(one_row(("load", "c"), **changes)["main"], [("load", "c")])

    def test_bounds_of_values_and_levels_of_rows(self):
        for size in range(2, 7):
            for row in [("set", "c"), ("add", "c")]:
                self.assertEqual(one_row(row + (size - 1,), size=size)["main"], [row + (size - 1,)])
                self.refused_row(row + (size,), size=size)
            self.refused_row(("if", "c", size, 0), size=size)
        for levels in range(1, 5):
            for kind in ("raise", "mask"):
                self.assertEqual(one_row((kind, levels), levels=levels, lines={})["main"], [(kind, levels)])
                self.refused_row((kind, levels + 1), levels=levels, lines={})


class Stub:
    """A key that is no word."""


def is_unhashable(value):
    try:
        hash(value)
    except (TypeError, RuntimeError):
        return True
    return False


class SectionsAndCallsTest(unittest.TestCase):
    def refused(self, procedures, start=("x",)):
        with self.assertRaises(BadProgram) as caught:
            Program(1, 2, {cell: 0 for cell in start}, procedures, {})
        self.assertEqual(caught.exception.part, "procedures")

    def test_how_many_sections(self):
        rows = [("open", "c"), ("close", "b"), ("open", "a"), ("open", "b")]
        program = Program(1, 2, {"x": 0}, {"main": rows, "sub": rows}, {})
        self.assertEqual(program.sections(), ["a", "b", "c"])
        for kind in ("open", "close"):
            self.refused({"main": rows, "sub": [(kind, "d")]})
            self.refused({"main": rows + [(kind, "d")]})

    def test_a_section_is_not_called_like_a_cell(self):
        for kind in ("open", "close"):
            self.refused({"main": [(kind, "x")]})
            self.refused({"main": [(kind, "y")]}, ("x", "y"))
        self.assertEqual(Program(1, 2, {"x": 0}, {"main": [("open", "y")]}, {}).sections(), ["y"])

    def test_a_procedure_that_calls_itself(self):
        self.refused({"main": [("call", "main")]})
        self.refused({"main": [], "sub": [("keep",), ("call", "sub")]})
        self.refused({"main": [("go", 2), ("call", "main")]})

    def test_procedures_that_call_themselves_by_others(self):
        self.refused({"main": [("call", "sub")], "sub": [("call", "main")]})
        self.refused({"main": [], "a": [("call", "b")], "b": [("call", "c")], "c": [("keep",), ("call", "a")]})
        self.refused({"main": [("call", "a")], "a": [("call", "b")], "b": [("call", "a")]})
        ring = {name: [("call", other)] for name, other in zip(WORDS[:11], WORDS[1:11] + ["a"])}
        self.refused({"main": [], **ring})

    def test_calls_without_a_ring(self):
        chain = {name: [("call", other), ("call", other)] for name, other in zip(WORDS[:11], WORDS[1:11])}
        program = Program(1, 2, {"x": 0}, {**chain, "k": [], "main": [("call", "a"), ("call", "k")]}, {})
        self.assertEqual(len(program.procedures()), 12)
        diamond = {"main": [("call", "a"), ("call", "b")], "a": [("call", "c")], "b": [("call", "c")], "c": []}
        self.assertEqual(Program(1, 2, {"x": 0}, diamond, {})["c"], [])

    def test_a_line_can_have_a_procedure_that_is_called_or_main(self):
        program = Program(1, 2, {"x": 0}, {"main": [("call", "sub")], "sub": []}, {"s": (1, "sub"), "m": (1, "main")})
        self.assertEqual(program.line_of("m"), (1, "main"))


if __name__ == "__main__":
    unittest.main()
