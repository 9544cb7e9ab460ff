"""[14], [1]: masks with which procedures are called and return, held against all moves."""

import unittest

from maskedlevels.errors import BadArgument, BadProcedure
from maskedlevels.machine import played
from maskedlevels.masks import keeps, left_script, masks_left
from maskedlevels.programs import Program
from tests.rounds import held_program, run_programs, state_behind
from tests.values import Refusals, odd_values, small_program
from tests.walks import few_program

PROGRAMS = 200


def left_behind(program, script):
    """The procedure that is at its end behind a script, with its mask at the call and the one it has; None for
    what is not at an end, or was begun by a line."""
    _, pile = state_behind(program, script)
    _, mask, frames, begun = pile[-1]
    procedure, point, _ = frames[-1]
    if point < len(program[procedure]) or (len(frames) == 1 and len(pile) > 1):
        return None
    return (procedure, begun[-1][3], mask)


class WalkedTest(unittest.TestCase):
    """Each answer for many programs, against all states that their moves lead to."""

    def test_masks_left_keeps_and_scripts(self):
        counts = {True: 0, False: 0, "many": 0, "none": 0}
        for made in (few_program, held_program):
            for program, runs in run_programs(PROGRAMS, made):
                for procedure in program.procedures():
                    pairs = runs.masks_left(procedure)
                    told = masks_left(program, procedure)
                    self.assertEqual(told, pairs)
                    self.assertIs(type(told), list)
                    kept = all(one == other for one, other in pairs)
                    self.assertIs(keeps(program, procedure), kept)
                    counts[kept] += 1
                    counts["many"] += len(pairs) > 2
                    counts["none"] += not pairs
                    self.holds_script(program, procedure, kept)
        self.assertGreater(min(counts.values()), 15, counts)

    def holds_script(self, program, procedure, kept):
        script = left_script(program, procedure)
        if kept:
            self.assertIsNone(script)
            return
        self.assertIs(type(script), list)
        name, before, behind = left_behind(program, script)
        self.assertEqual(name, procedure)
        self.assertNotEqual(before, behind)
        self.assertIn((before, behind), masks_left(program, procedure))
        self.assertEqual(played(program, script).place()[:2], (procedure, len(program[procedure])))


class MasksTest(unittest.TestCase):
    def told(self, program, procedure, pairs):
        self.assertEqual(masks_left(program, procedure), pairs)
        script = left_script(program, procedure)
        self.assertIs(keeps(program, procedure), script is None)
        if script is not None:
            self.assertEqual(left_behind(program, script)[0], procedure)

    def test_several_places_floors_and_masks(self):
        rows = {
            "main": [("call", "sub"), ("mask", 3), ("call", "sub"), ("mask", 0)], "sub": [("if", "x", 1, 3), ("raise", 2), ("go", 4), ("mask", 1)],
            "serve": [("set", "x", 1), ("call", "sub"), ("mask", 4), ("call", "sub"), ("set", "x", 0)],
        }
        program = Program(4, 2, {"x": 0}, rows, {"t": (1, "serve"), "u": (3, "serve")})
        pairs = [(0, 2), (1, 1), (1, 2), (3, 3), (4, 1), (4, 3), (4, 4)]
        self.told(program, "sub", pairs)
        self.assertEqual(pairs, sorted(pairs))
        self.told(program, "serve", [])
        self.told(program, "main", [(0, 0)])

    def test_each_pair_once(self):
        rows = {"main": [("any", "x"), ("call", "sub"), ("call", "sub"), ("either", 0)], "sub": [("either", 2), ("keep",)]}
        self.told(Program(1, 4, {"x": 0}, rows, {}), "sub", [(0, 0)])

    def test_one_that_never_returns(self):
        rows = {"main": [("call", "sub"), ("raise", 1)], "sub": [("raise", 1), ("go", 1)]}
        program = Program(1, 2, {"x": 0}, rows, {})
        self.told(program, "sub", [])
        self.told(program, "main", [])
        self.assertIs(keeps(program, "sub"), True)

    def test_one_that_is_never_called(self):
        rows = {"main": [("go", 2), ("call", "sub")], "sub": [("raise", 1)], "other": [("raise", 1)]}
        program = Program(1, 2, {"x": 0}, rows, {})
        self.told(program, "sub", [])
        self.told(program, "other", [])

    def test_one_that_only_lines_begin(self):
        program = Program(2, 2, {"x": 0}, {"main": [], "serve": [("raise", 2)]}, {"t": (1, "serve")})
        self.told(program, "serve", [])
        self.assertIs(keeps(program, "serve"), True)
        self.assertIsNone(left_script(program, "serve"))

    def test_one_that_is_called_and_serves_a_line(self):
        rows = {"main": [("raise", 1), ("call", "serve"), ("mask", 0)], "serve": [("mask", 2)]}
        program = Program(2, 2, {"x": 0}, rows, {"t": (2, "serve"), "u": (1, "serve")})
        self.told(program, "serve", [(1, 2)])
        self.assertEqual(left_script(program, "serve"), [("row", 0)] * 3)
        clean = {"main": [("raise", 2), ("call", "serve"), ("mask", 0)], "serve": [("mask", 2)]}
        # As a line of level 1 it would leave 2 instead of 1, but a line is not called.
        self.told(Program(2, 2, {"x": 0}, clean, {"t": (1, "serve")}), "serve", [(2, 2)])

    def test_the_same_beginning_by_a_call_and_by_a_line(self):
        rows = {"main": [], "outer": [("call", "inner")], "inner": [("raise", 2)]}
        program = Program(2, 2, {"x": 0}, rows, {"a": (1, "inner"), "t": (1, "outer")})
        self.told(program, "inner", [(1, 2)])
        self.assertEqual(left_script(program, "inner"), [("serve", "t"), ("row", 0), ("row", 0)])

    def test_the_main_one(self):
        rows = {"main": [("either", 2), ("raise", 2), ("keep",)], "set": [("set", "x", 1)]}
        program = Program(2, 2, {"x": 0}, rows, {"t": (1, "set")})
        self.told(program, "main", [(0, 0), (0, 2)])
        self.assertEqual(played(program, left_script(program, "main")).at_rest(), True)

    def test_the_main_one_is_called_by_lines(self):
        rows = {"main": [("raise", 1)], "serve": [("mask", 2), ("call", "main")], "low": [("call", "main")]}
        program = Program(2, 2, {"x": 0}, rows, {"t": (2, "serve"), "u": (1, "low")})
        self.told(program, "main", [(0, 1), (1, 1), (2, 2)])
        calm = Program(2, 2, {"x": 0}, {"main": [("mask", 1)], "serve": [("mask", 2), ("call", "main")]}, {"t": (1, "serve")})
        self.told(calm, "main", [(0, 1), (2, 1)])

    def test_the_main_one_that_serves_a_line_is_no_call(self):
        program = Program(2, 2, {"x": 0}, {"main": [("raise", 2)]}, {"t": (1, "main")})
        self.told(program, "main", [(0, 2)])
        self.assertEqual(left_script(program, "main"), [("row", 0)])

    def test_at_rest_behind_lines_that_are_served_there(self):
        # The mask hangs on the store, and the store on a line; at rest no line changes the mask any more.
        rows = {"main": [("if", "x", 0, 2), ("raise", 1), ("keep",)], "put": [("set", "x", 1)]}
        program = Program(2, 2, {"x": 0}, rows, {"t": (2, "put")})
        self.told(program, "main", [(0, 0), (0, 1)])
        self.told(program.with_guards({("main", 0): 2}), "main", [(0, 0)])
        self.told(program.with_guards({("main", 3): 2}), "main", [(0, 0), (0, 1)])

    def test_guards_at_the_end_of_a_procedure(self):
        rows = {"main": [("call", "sub"), ("load", "m"), ("call", "last")], "sub": [], "last": [], "put": [("set", "m", 1)]}
        program = Program(2, 2, {"m": 0}, rows, {"t": (1, "put")})
        self.told(program, "last", [(0, 0), (1, 1)])
        shut = {("main", 0): 1, ("sub", 0): 1, ("main", 1): 1}
        self.told(program.with_guards(shut), "last", [(0, 0)])
        for spot in shut:
            guards = {other: 1 for other in shut if other != spot}
            self.told(program.with_guards(guards), "last", [(0, 0), (1, 1)])
        self.told(program, "sub", [(0, 0)])
        rows["last"] = [("load", "m")]
        self.told(Program(2, 2, {"m": 0}, rows, {"t": (1, "put")}, guards=shut), "last", [(0, 0), (0, 1)])

    def test_an_activation_below_keeps_its_mask(self):
        rows = {"main": [("call", "sub")], "sub": [("keep",)], "serve": [("raise", 2)]}
        program = Program(2, 2, {"x": 0}, rows, {"t": (1, "serve")})
        self.told(program, "sub", [(0, 0)])


class RefusedTest(unittest.TestCase, Refusals):
    def test_programs_then_procedures(self):
        program = small_program()
        for told in (masks_left, keeps, left_script):
            for value in odd_values():
                self.refuses(BadArgument, value, told, value, "main")
                self.refuses(BadArgument, value, told, value, None)
            for value in odd_values() + ["tick", "x", "s", "other"]:
                self.refuses(BadProcedure, value, told, program, value)
        self.assertEqual(program, small_program())


if __name__ == "__main__":
    unittest.main()
