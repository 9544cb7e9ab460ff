"""[2], [3], [5]: what a program tells of itself, and what it refuses."""

import unittest

from maskedlevels.errors import BadGuards, BadLine, BadPoint, BadProcedure
from maskedlevels.programs import Program
from tests.values import odd_values, small_parts, small_program


class TellingsTest(unittest.TestCase):
    def setUp(self):
        self.program = small_program()

    def test_properties(self):
        self.assertEqual((self.program.levels, self.program.size, self.program.main), (2, 3, "main"))
        for name in ("levels", "size", "main"):
            with self.assertRaises(AttributeError):
                setattr(self.program, name, 1)

    def test_lists_are_ascending(self):
        self.assertEqual(self.program.cells(), ["x", "y"])
        self.assertEqual(self.program.sections(), ["s"])
        self.assertEqual(self.program.procedures(), ["bell", "clock", "main", "sub"])
        self.assertEqual(self.program.lines(), ["alarm", "ring", "tick"])
        self.assertEqual(self.program.guards(), {("main", 4): 1, ("clock", 0): 2})

    def test_a_program_without_lines_sections_and_guards(self):
        program = Program(1, 2, {"x": 0}, {"main": []}, {})
        self.assertEqual((program.sections(), program.lines(), program.guards()), ([], [], {}))

    def test_rows_of_a_procedure(self):
        self.assertEqual(self.program["sub"], [("add", "y", 2)])
        self.assertEqual(self.program["bell"], [])
        for value in ["other", "x", "tick", *odd_values()]:
            with self.assertRaises(BadProcedure) as caught:
                self.program[value]
            self.assertIs(caught.exception.value, value)

    def test_in(self):
        for name in ("bell", "clock", "main", "sub"):
            self.assertIs(name in self.program, True)
        for value in ["other", "x", "tick", *odd_values()]:
            self.assertIs(value in self.program, False)

    def test_line_of(self):
        self.assertEqual(self.program.line_of("tick"), (1, "clock"))
        self.assertEqual(self.program.line_of(line="ring"), (2, "bell"))
        for value in ["other", "main", "clock", *odd_values()]:
            with self.assertRaises(BadLine) as caught:
                self.program.line_of(value)
            self.assertIs(caught.exception.value, value)

    def test_guard_at(self):
        self.assertEqual([self.program.guard_at("main", point) for point in range(5)], [0, 0, 0, 0, 1])
        self.assertEqual([self.program.guard_at("clock", point) for point in range(2)], [2, 0])
        self.assertEqual(self.program.guard_at(procedure="bell", point=0), 0)

    def test_guard_at_refuses(self):
        for value in ["other", "x", *odd_values()]:
            for point in (0, -1, None):
                with self.assertRaises(BadProcedure) as caught:
                    self.program.guard_at(value, point)
                self.assertIs(caught.exception.value, value)
        for value in [-1, 5, "0", *odd_values()]:
            with self.assertRaises(BadPoint) as caught:
                self.program.guard_at("main", value)
            self.assertIs(caught.exception.value, value)
        with self.assertRaises(BadPoint):
            self.program.guard_at("bell", 1)

    def test_first_store(self):
        self.assertEqual(self.program.first_store(), (0, 1, 0))
        rows = [("close", "b"), ("open", "d"), ("open", "a")]
        program = Program(1, 6, {"z": 1, "c": 5, "m": 2}, {"main": rows}, {})
        self.assertEqual(program.first_store(), (5, 2, 1, 0, 0, 0))
        self.assertIs(type(program.first_store()), tuple)

    def test_with_guards(self):
        other = self.program.with_guards({("sub", 1): 2})
        self.assertEqual(other.guards(), {("sub", 1): 2})
        self.assertEqual(other, small_program(guards={("sub", 1): 2}))
        self.assertEqual(self.program, small_program())
        self.assertEqual(self.program.with_guards(guards={}), small_program(guards=None))
        self.assertEqual(small_program(main="sub").with_guards({}).main, "sub")

    def test_with_guards_refuses(self):
        wrong = [{("main", 5): 1}, {("main", 0): 0}, {("main", 0): 3}, {("other", 0): 1}, {("main", True): 1},
                 {("main", 0): True}, {"main": 1}, None, [("main", 0, 1)]]
        for value in wrong + [odd for odd in odd_values() if not (type(odd) is dict and odd == {})]:
            with self.assertRaises(BadGuards) as caught:
                self.program.with_guards(value)
            self.assertIs(caught.exception.value, value)
        self.assertEqual(self.program, small_program())

    def test_given_guards_can_be_changed_later(self):
        guards = {("main", 0): 1}
        program = self.program.with_guards(guards)
        guards[("main", 1)] = 2
        self.assertEqual(program.guards(), {("main", 0): 1})

    def test_given_values_can_be_changed_later(self):
        parts = small_parts()
        program = Program(**parts)
        parts["start"]["x"] = 2
        parts["procedures"]["main"].append(("keep",))
        parts["procedures"]["new"] = []
        parts["lines"].clear()
        parts["guards"][("main", 0)] = 1
        self.assertEqual(program, small_program())
        self.assertEqual(program.first_store(), (0, 1, 0))
        self.assertEqual(program.guard_at("main", 0), 0)
        self.assertEqual(program.lines(), ["alarm", "ring", "tick"])

    def test_returned_values_can_be_changed(self):
        for told in (self.program.cells, self.program.sections, self.program.procedures, self.program.lines):
            before = list(told())
            told().clear()
            told().append("other")
            self.assertEqual(told(), before)
        self.program.guards()[("main", 0)] = 1
        self.program.guards().clear()
        self.program["sub"].append(("keep",))
        self.program["main"].clear()
        self.assertEqual(self.program, small_program())
        self.assertEqual(self.program.guards(), {("main", 4): 1, ("clock", 0): 2})

    def test_equal(self):
        self.assertIs(self.program == small_program(), True)
        self.assertIs(self.program != small_program(), False)
        parts = small_parts()
        turned = {part: dict(reversed(list(parts[part].items()))) for part in ("start", "procedures", "lines", "guards")}
        self.assertIs(self.program == small_program(**turned), True)
        self.assertIs(small_program(guards=None) == small_program(guards={}), True)

    def test_unequal(self):
        parts = small_parts()
        changes = [
            {"levels": 3}, {"size": 4}, {"start": {"x": 0, "y": 0}}, {"start": {"x": 0, "y": 1, "z": 0}},
            {"procedures": {**parts["procedures"], "bell": [("keep",)]}},
            {"procedures": {**parts["procedures"], "more": []}}, {"lines": {"tick": (1, "clock")}},
            {"lines": {**parts["lines"], "ring": (1, "bell")}}, {"lines": {**parts["lines"], "ring": (2, "clock")}},
            {"main": "sub"}, {"guards": {}}, {"guards": None}, {"guards": {("main", 4): 2, ("clock", 0): 2}},
        ]
        for change in changes:
            with self.subTest(change=change):
                self.assertIs(self.program == small_program(**change), False)
                self.assertIs(small_program(**change) == self.program, False)

    def test_unequal_to_values_of_other_classes(self):
        for value in odd_values():
            self.assertIs(self.program == value, False)
        self.assertIs(self.program == small_parts(), False)


if __name__ == "__main__":
    unittest.main()
