"""[17], [1]: the longest stretches that keep lines out, held against all moves."""

import unittest

from maskedlevels.errors import BadArgument, BadNumber
from maskedlevels.programs import Program
from maskedlevels.stretches import longest, stretch_ring, stretch_script
from tests.rounds import Rings, held_program, run_programs, waiting_program
from tests.values import Refusals, odd_values, small_program
from tests.walks import Traced, few_program

PROGRAMS = 150


class Stretches(Rings):
    def holds_stretch(self, program, level, script, many):
        """The last rows of the activation in which the script ends are a stretch."""
        player, steps = Traced(program), []
        for move in script:
            self.assertIn(move, player.moves())
            steps.append((player.state(), move))
            player.make(move)
        depth, rows = len(player.state()[1]), 0
        for at, (state, move) in enumerate(reversed(steps)):
            if rows == many:
                break
            _, pile = state
            self.assertGreaterEqual(len(pile), depth)
            if len(pile) > depth:
                continue
            _, mask, frames, _ = pile[-1]
            procedure, point, _ = frames[-1]
            self.assertGreaterEqual(max(mask, program.guard_at(procedure, point)), level)
            is_row = move[0] == "row" and point < len(program[procedure])
            rows += is_row
            self.assertTrue(is_row or at > 0)
        self.assertEqual(rows, many)

    def told(self, program, level, many):
        """Holds the three calls against the greatest number of rows, None if there is none."""
        self.assertEqual(longest(program, level), many)
        pair, ring = stretch_script(program, level), stretch_ring(program, level)
        if many is None:
            self.assertIsNone(pair)
            self.assertIs(type(ring), tuple)
            self.holds_ring(program, ring[0], ring[1], level, True)
            return
        self.assertIsNone(ring)
        self.assertIs(type(pair), tuple)
        self.assertEqual(pair[1], many)
        if many == 0:
            self.assertEqual(pair, ([], 0))
        self.holds_stretch(program, level, *pair)


class WalkedTest(unittest.TestCase, Stretches):
    """Each answer for many programs, against all states that their moves lead to."""

    def test_longest_scripts_and_rings(self):
        counts = {}
        for made in (few_program, held_program, waiting_program):
            for program, runs in run_programs(PROGRAMS, made):
                for level in range(1, program.levels + 1):
                    many = runs.longest(level)
                    self.told(program, level, many)
                    sort = many if many is None or many < 8 else 8
                    counts[sort] = counts.get(sort, 0) + 1
        self.assertGreater(min(counts.values()), 1, counts)
        self.assertEqual(len(counts), 10)


class StretchesTest(unittest.TestCase, Stretches):
    def made(self, rows, lines=None, levels=2, size=3, guards=None):
        parts = {"serve": [], **rows}
        return Program(levels, size, {"x": 0}, parts, {"t": (1, "serve")} if lines is None else lines, guards=guards)

    def test_no_row_at_all(self):
        self.told(self.made({"main": []}), 1, 0)
        self.told(self.made({"main": [("keep",), ("raise", 2)]}, lines={}), 1, 0)
        self.assertEqual(stretch_script(self.made({"main": [("keep",)]}), 2), ([], 0))

    def test_rows_under_a_mask(self):
        program = self.made({"main": [("raise", 1), ("keep",), ("look", "x"), ("mask", 0), ("keep",)]}, lines={})
        self.told(program, 1, 3)
        self.told(program, 2, 0)
        self.assertEqual(stretch_script(program, 1), ([("row", 0)] * 4, 3))

    def test_a_line_of_the_level_is_kept_out_by_its_own_rows(self):
        rows = {"main": [], "serve": [("keep",)] * 4, "high": [("keep",)] * 2}
        program = self.made(rows, {"t": (1, "serve"), "u": (2, "high")})
        self.told(program, 1, 4)
        self.told(program, 2, 2)

    def test_guards_count_as_masks_do(self):
        rows = {"main": [("keep",)] * 5}
        self.told(self.made(rows, guards={("main", 1): 1, ("main", 2): 2, ("main", 4): 1}), 1, 2)
        self.told(self.made(rows, guards={("main", point): 1 for point in range(6)}), 1, 5)
        self.told(self.made(rows, guards={("main", point): 1 for point in range(6)}), 2, 0)
        # The end has no row.
        self.told(self.made(rows, guards={("main", 5): 1}), 1, 0)

    def test_the_row_that_lowers_the_mask_is_the_last_one(self):
        self.told(self.made({"main": [("raise", 1), ("mask", 0), ("keep",)]}), 1, 1)

    def test_rows_of_calls_count_and_returns_do_not(self):
        rows = {"main": [("raise", 1), ("call", "sub"), ("call", "sub"), ("mask", 0)], "sub": [("keep",), ("keep",)]}
        self.told(self.made(rows), 1, 2 * 3 + 1)

    def test_a_longer_way_behind_services_that_lead_round(self):
        # Only behind two services, which count for nothing, is the longer way taken.
        rows = {
            "main": [("mask", 1), ("keep",), ("call", "sub"), ("keep",), ("mask", 0)],
            "sub": [("if", "x", 2, 2), ("go", 5), ("keep",), ("keep",), ("keep",)], "put": [("add", "x", 1)],
        }
        guards = {("main", point): 2 for point in range(5)} | {("sub", point): 2 for point in range(1, 6)}
        program = self.made(rows, {"u": (2, "put")}, guards=guards)
        self.told(program, 1, 3 + 1 + 3 + 2)
        self.told(self.made(rows, {}, guards=guards), 1, 3 + 2 + 2)

    def test_the_longer_way_through_what_is_called(self):
        rows = {
            "main": [("raise", 1), ("call", "sub"), ("call", "sub"), ("mask", 0)],
            "sub": [("either", 4), ("keep",), ("call", "low"), ("keep",)], "low": [("either", 2), ("look", "x")],
        }
        self.told(self.made(rows), 1, 2 * (1 + 3 + 1 + 2) + 1)

    def test_a_call_of_nothing(self):
        rows = {"main": [("raise", 1), ("call", "sub"), ("mask", 0), ("keep",)], "sub": []}
        self.told(self.made(rows), 1, 2)

    def test_a_return_over_a_less_bound_ends_a_stretch(self):
        rows = {"main": [("raise", 1), ("call", "sub"), ("raise", 1), ("keep",), ("mask", 0)], "sub": [("keep",), ("mask", 0)]}
        program = self.made(rows, lines={})
        self.told(program, 1, 3)
        guards = {("sub", 2): 1}
        self.told(program.with_guards(guards), 1, 3)
        self.told(program.with_guards({**guards, ("main", 2): 1}), 1, 6)
        self.told(program.with_guards({("main", 2): 1}), 1, 3)

    def test_a_stretch_begins_in_a_call_that_returns(self):
        rows = {"main": [("call", "sub"), ("keep",), ("mask", 0), ("keep",)], "sub": [("call", "low"), ("look", "x")], "low": [("raise", 1), ("keep",)]}
        program = self.made(rows, lines={})
        self.told(program, 1, 4)
        self.assertEqual(stretch_script(program, 1), ([("row", 0)] * 9, 4))

    def test_a_stretch_ends_in_a_call_that_does_not_return(self):
        rows = {"main": [("raise", 1), ("keep",), ("call", "sub")], "sub": [("call", "low")], "low": [("keep",), ("mask", 0), ("keep",), ("keep",)]}
        self.told(self.made(rows), 1, 5)

    def test_a_stretch_that_goes_out_and_in_again(self):
        rows = {
            "main": [("call", "up"), ("call", "down")], "up": [("call", "low"), ("keep",)], "low": [("raise", 1)],
            "down": [("keep",), ("mask", 0), ("keep",)],
        }
        self.told(self.made(rows), 1, 4)

    def test_a_return_does_not_lead_to_another_caller(self):
        # Both calls begin alike, but only the first one goes on with many rows.
        rows = {
            "main": [("raise", 1), ("either", 5), ("call", "sub"), ("mask", 0), ("go", 14), ("mask", 0), ("raise", 1), ("call", "sub")]
            + [("keep",)] * 5 + [("mask", 0)],
            "sub": [("keep",)],
        }
        self.told(self.made(rows, lines={}), 1, 2 + 5 + 1)

    def test_lines_that_are_served_in_between_change_the_store(self):
        rows = {
            "main": [("raise", 1), ("if", "x", 0, 5), ("keep",), ("keep",), ("keep",), ("mask", 0)],
            "put": [("set", "x", 1), ("keep",), ("keep",)],
        }
        lines = {"t": (1, "serve"), "u": (2, "put")}
        self.told(self.made(rows), 1, 2)
        self.told(self.made(rows, lines), 1, 5)
        # A guard of the first row makes this row one of the stretch, too.
        self.told(self.made(rows, lines, guards={("main", 0): 2}), 1, 6)
        self.told(self.made(rows, lines, guards={("main", 0): 2, ("main", 1): 2}), 1, 3)

    def test_lines_within_a_stretch_do_not_count(self):
        rows = {"main": [("raise", 1), ("keep",), ("mask", 0)], "long": [("keep",)] * 9}
        self.told(self.made(rows, {"u": (2, "long")}), 1, 9)
        self.told(self.made({**rows, "long": [("keep",)]}, {"u": (2, "long")}), 1, 2)

    def test_no_greatest_one(self):
        self.told(self.made({"main": [("raise", 1), ("go", 1)]}), 1, None)
        self.told(self.made({"main": [("go", 0)]}), 1, 0)
        self.told(self.made({"main": [("go", 0)]}, guards={("main", 0): 1}), 1, None)
        self.told(self.made({"main": [("raise", 1), ("go", 0)]}), 1, None)
        self.told(self.made({"main": [("mask", 1), ("mask", 0), ("go", 0)]}), 1, 1)

    def test_no_greatest_one_by_lines_alone(self):
        rows = {"main": [("raise", 1), ("if", "x", 0, 4), ("set", "x", 0), ("go", 1), ("mask", 0)], "put": [("set", "x", 1)]}
        self.told(self.made(rows, {"u": (2, "put")}), 1, None)
        self.told(self.made(rows, {"u": (1, "put")}), 1, 5)
        self.told(self.made(rows, {"u": (2, "put")}, guards={("main", 1): 2, ("main", 2): 2, ("main", 3): 2}), 1, 5)

    def test_no_greatest_one_in_what_is_called_or_by_calls(self):
        self.told(self.made({"main": [("raise", 1), ("call", "sub")], "sub": [("keep",), ("go", 0)]}), 1, None)
        rows = {"main": [("raise", 1), ("call", "sub"), ("go", 1)], "sub": []}
        self.told(self.made(rows), 1, None)
        self.told(self.made({**rows, "sub": [("mask", 0), ("raise", 1)]}), 1, 3)

    def test_lines_at_rest_are_no_ring(self):
        rows = {"main": [("raise", 1)], "flip": [("add", "x", 1)]}
        self.told(self.made(rows, {"u": (2, "flip")}), 1, 1)
        self.told(self.made(rows, {"u": (2, "flip")}), 2, 1)

    def test_lines_that_turn_the_store_round_within_a_stretch(self):
        rows = {"main": [("raise", 1), ("if", "x", 2, 3), ("mask", 0), ("keep",), ("keep",), ("mask", 0)], "flip": [("add", "x", 1)]}
        self.told(self.made(rows, {"u": (2, "flip")}), 1, 4)


class RefusedTest(unittest.TestCase, Refusals):
    def test_programs_then_levels(self):
        program = small_program()
        for told in (longest, stretch_ring, stretch_script):
            for value in odd_values():
                self.refuses(BadArgument, value, told, value, 1)
                self.refuses(BadArgument, value, told, value, None)
            for value in odd_values() + [0, 3, "1"]:
                self.refuses(BadNumber, value, told, program, value)


if __name__ == "__main__":
    unittest.main()
