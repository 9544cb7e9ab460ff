"""[27], [1]: the longest waits of lines, held against all moves, scripts and rings played by a machine."""

import random
import unittest

from maskedlevels.errors import BadArgument, BadLine, BadNumber
from maskedlevels.machine import played
from maskedlevels.programs import Program
from maskedlevels.steps import can_serve
from maskedlevels.waits import longest_wait, wait_ring, wait_script
from tests.binding import named_behind
from tests.rounds import held_program, waiting_program
from tests.values import Refusals, odd_values, small_program
from tests.waited import ahead_of, allowances_for, waiting_programs, waits_of
from tests.walks import few_program

PROGRAMS = 120


class Waits:
    """Plays waits on a machine; mixed into tests."""

    def play_wait(self, program, script, moves, line, allowance):
        """Plays a wait behind a script; returns how many rows it has."""
        machine, rows, served = played(program, script), 0, {}
        for move in moves:
            procedure, point, _, _, mask, _ = machine.place()
            lines = can_serve(program, procedure, point, mask)
            self.assertNotEqual(move, ("serve", line))
            if line in lines:
                self.assertEqual(move[0], "serve")
            if move[0] == "serve":
                self.assertIn(move[1], ahead_of(program, line))
                served[move[1]] = served.get(move[1], 0) + 1
                self.assertLessEqual(served[move[1]], allowance.get(move[1], 0))
            rows += move[0] == "row" and point < len(program[procedure])
            machine(move)
        return rows

    def told(self, program, line, allowance, many):
        """Holds the three calls against the greatest number of rows, None if there is none."""
        self.assertEqual(longest_wait(program, line, allowance), many)
        pair, ring = wait_script(program, line, allowance), wait_ring(program, line, allowance)
        if many is None:
            self.assertIsNone(pair)
            self.assertEqual((type(ring), type(ring[0]), type(ring[1])), (tuple, list, list))
            self.assertGreater(self.play_wait(program, *ring, line, allowance), 0)
            self.assertTrue(all(move[0] == "row" for move in ring[1]))
            self.assertEqual(named_behind(program, ring[0] + ring[1]), named_behind(program, ring[0]))
            return
        self.assertIsNone(ring)
        self.assertEqual((type(pair), type(pair[0]), type(pair[1])), (tuple, list, list))
        self.assertEqual(self.play_wait(program, *pair, line, allowance), many)


class WalkedTest(unittest.TestCase, Waits):
    """Each answer for many programs, against all states that their moves lead to."""

    def test_longest_scripts_and_rings(self):
        counts = {}
        for made in (few_program, held_program, waiting_program):
            for seed, (program, states) in enumerate(waiting_programs(PROGRAMS, made, 250)):
                draw = random.Random(seed)
                for line in program.lines():
                    for allowance in allowances_for(draw, program, line):
                        many = waits_of(program, states, line, allowance)
                        self.told(program, line, allowance, many)
                        sort = many if many is None or many < 8 else 8
                        counts[sort] = counts.get(sort, 0) + 1
        self.assertEqual(len(counts), 10)
        self.assertGreater(min(counts.values()), 8, counts)

    def test_zeros_are_like_nothing(self):
        for made in (few_program, held_program):
            for program, _ in waiting_programs(20, made, 250):
                for line in program.lines():
                    ahead = ahead_of(program, line)
                    self.assertEqual(longest_wait(program, line, dict.fromkeys(ahead, 0)), longest_wait(program, line, {}))


class WaitsTest(unittest.TestCase, Waits):
    def made(self, rows, lines, levels=3, guards=None):
        return Program(levels, 3, {"x": 0}, rows, lines, guards=guards)

    def test_no_wait(self):
        program = self.made({"main": [("keep",)] * 3, "put": []}, {"t": (1, "put")})
        self.told(program, "t", {}, 0)
        self.assertEqual(wait_script(program, "t", {})[1], [])
        self.told(self.made({"main": [], "put": []}, {"t": (1, "put")}), "t", {}, 0)

    def test_rows_under_a_mask_and_a_guard(self):
        program = self.made({"main": [("mask", 1), ("keep",), ("keep",), ("mask", 0), ("keep",)], "put": []}, {"t": (1, "put"), "u": (2, "put")})
        self.told(program, "t", {}, 3)
        self.told(program, "u", {}, 0)
        program = self.made({"main": [("keep",)] * 5, "put": []}, {"t": (1, "put")}, guards={("main", 1): 1, ("main", 2): 2, ("main", 4): 1})
        self.told(program, "t", {}, 2)

    def test_its_own_rows_keep_a_line_waiting(self):
        program = self.made({"main": [], "put": [("keep",)] * 4}, {"t": (2, "put"), "u": (1, "put")})
        self.told(program, "t", {}, 4)
        # The other one may have been served on it before the wait begins.
        self.told(program, "u", {}, 8)
        self.told(program, "u", {"t": 1}, 12)
        self.told(program, "u", {"t": 3}, 20)

    def test_lines_ahead_while_it_cannot_be_served_and_while_it_can(self):
        rows = {"main": [("mask", 1), ("keep",), ("mask", 0)], "put": [], "two": [("look", "x")] * 5}
        program = self.made(rows, {"t": (1, "put"), "u": (2, "two")})
        for many in range(4):
            self.told(program, "t", {"u": many}, 2 + 5 + 5 * many)
        # Also at rest, where it can be served.
        program = self.made({"main": [], "put": [], "two": [("look", "x")] * 5}, {"t": (1, "put"), "u": (2, "two")})
        for many in range(4):
            self.told(program, "t", {"u": many}, 5 + 5 * many)

    def test_a_service_begun_before_is_not_counted(self):
        program = self.made({"main": [], "put": [], "two": [("look", "x")] * 5}, {"t": (1, "put"), "u": (2, "two")})
        self.told(program, "t", {}, 5)
        script, moves = wait_script(program, "t", {})
        self.assertEqual((script, moves[:5], ("serve", "u") in moves), ([("serve", "u")], [("row", 0)] * 5, False))

    def test_lines_ahead_are_those_of_can_serve(self):
        rows = {"main": [], "put": [("keep",)], "two": [("keep",)] * 2}
        program = self.made(rows, {"a": (1, "two"), "b": (1, "put"), "c": (1, "two"), "z": (2, "two")})
        # A line of each level was served before.
        self.told(program, "b", {"a": 2, "z": 3}, 4 + 2 * 2 + 3 * 2)
        self.told(program, "a", {"z": 1}, 4 + 2)
        self.told(program, "c", {"a": 1, "b": 1, "z": 1}, 4 + 2 + 1 + 2)
        for line, other in [("b", "c"), ("a", "b"), ("z", "a"), ("b", "b")]:
            with self.assertRaises(BadNumber):
                longest_wait(program, line, {other: 1})

    def test_lines_served_over_one_another(self):
        rows = {"main": [("mask", 1), ("mask", 0)], "put": [], "two": [("keep",)] * 2, "high": [("keep",)] * 3}
        program = self.made(rows, {"t": (1, "put"), "u": (2, "two"), "v": (3, "high")})
        self.told(program, "t", {}, 1 + 2 + 3)
        self.told(program, "t", {"u": 2, "v": 2}, 6 + 2 * 2 + 2 * 3)
        # Served within the other one or not, they are used up.
        self.told(program, "t", {"u": 1, "v": 3}, 6 + 2 + 3 * 3)

    def test_rows_of_all_activations(self):
        # It begins within what was served before, goes on below, and ends within what is served at the end.
        rows = {"main": [("mask", 2), ("keep",), ("mask", 0)], "put": [], "spin": [("keep",), ("mask", 0), ("keep",)]}
        program = self.made(rows, {"t": (2, "put"), "v": (3, "spin")})
        self.told(program, "t", {}, 3 + 2)
        self.told(program, "t", {"v": 1}, 3 + 2 + 3)
        moves = wait_script(program, "t", {"v": 1})[1]
        self.assertEqual(moves.count(("serve", "v")), 1)

    def test_calls_are_rows_and_returns_are_none(self):
        rows = {"main": [("mask", 1), ("call", "sub"), ("call", "sub"), ("mask", 0)], "sub": [("keep",)] * 2, "put": []}
        self.told(self.made(rows, {"t": (1, "put")}), "t", {}, 2 * 3 + 1)

    def test_it_begins_in_what_was_called(self):
        rows = {"main": [("call", "sub"), ("keep",), ("mask", 0)], "sub": [("mask", 1), ("keep",)], "put": []}
        self.told(self.made(rows, {"t": (1, "put")}), "t", {}, 3)

    def test_a_return_is_made_only_while_it_cannot_be_served(self):
        rows = {"main": [("call", "sub"), ("keep",), ("keep",)], "sub": [("mask", 1)], "put": []}
        program = self.made(rows, {"t": (1, "put")})
        self.told(program, "t", {}, 2)
        self.told(self.made({**rows, "sub": [("mask", 1), ("mask", 0)]}, {"t": (1, "put")}), "t", {}, 1)
        rows = {"main": [("call", "sub")] * 3, "sub": [("keep",)], "put": []}
        guards = {("sub", 0): 1, ("main", 1): 1, ("main", 2): 1}
        self.told(self.made(rows, {"t": (1, "put")}, guards=guards), "t", {}, 2)
        self.told(self.made(rows, {"t": (1, "put")}, guards={**guards, ("sub", 1): 1}), "t", {}, 5)

    def test_waits_without_end(self):
        rows = {"main": [("mask", 1), ("keep",), ("go", 1)], "put": []}
        program = self.made(rows, {"t": (1, "put"), "u": (2, "put")})
        for allowance in ({}, {"u": 0}, {"u": 3}):
            self.told(program, "t", allowance, None)
        self.told(program, "u", {}, 0)
        self.told(self.made({"main": [("go", 0)], "put": []}, {"t": (1, "put")}, guards={("main", 0): 1}), "t", {}, None)
        self.told(self.made({"main": [("go", 0)], "put": []}, {"t": (1, "put")}), "t", {}, 0)

    def test_a_ring_of_another_activation(self):
        rows = {"main": [], "put": [], "spin": [("call", "sub"), ("go", 0)], "sub": [("keep",)]}
        program = self.made(rows, {"t": (1, "put"), "u": (2, "spin")})
        self.told(program, "t", {}, None)
        script, ring = wait_ring(program, "t", {})
        self.assertIn(("serve", "u"), script)
        self.assertEqual(len(ring), 4)
        # Also where the line itself goes round.
        self.told(self.made(rows, {"t": (1, "spin")}), "t", {}, None)

    def test_waits_end_because_services_are_used_up(self):
        # It goes round only while the cell changes, and nothing but a line changes it.
        rows = {"main": [("mask", 1), ("if", "x", 0, 4), ("set", "x", 0), ("go", 1), ("mask", 0)], "put": [], "two": [("set", "x", 1)]}
        guards = {("main", point): 2 for point in (2, 3, 4)}
        program = self.made(rows, {"t": (1, "put"), "u": (2, "two")}, guards=guards)
        found = [longest_wait(program, "t", {"u": many}) for many in range(4)]
        self.assertEqual(found, sorted(found))
        self.assertEqual(len(set(found)), 4)
        for many in range(4):
            self.told(program, "t", {"u": many}, found[many])

    def test_a_ring_with_services_alone_is_none(self):
        rows = {"main": [("if", "x", 1, 0), ("keep",)], "put": [], "two": [("set", "x", 1)]}
        guards = {("main", 0): 1, ("two", 0): 3}
        program = self.made(rows, {"t": (1, "put"), "u": (2, "two")}, guards=guards)
        self.told(program, "t", {"u": 3}, None)
        rows = {"main": [("if", "x", 1, 3), ("keep",), ("go", 4), ("set", "x", 0), ("keep",)], "put": [], "two": [("set", "x", 1)]}
        program = self.made(rows, {"t": (1, "put"), "u": (2, "two")}, guards={("main", point): 1 for point in range(5)})
        self.assertIsNotNone(longest_wait(program, "t", {"u": 3}))

    def test_a_line_that_no_run_serves(self):
        rows = {"main": [("keep",)] * 3, "put": []}
        guards = {("main", point): 1 for point in range(4)}
        self.told(self.made(rows, {"t": (1, "put")}, guards=guards), "t", {}, 3)
        self.told(self.made(rows, {"t": (1, "put"), "u": (2, "put")}, guards={("main", point): 2 for point in range(4)}), "t", {"u": 3}, 3)

    def test_a_choice_with_more_rows(self):
        rows = {"main": [("mask", 1), ("either", 3), ("go", 6), ("keep",), ("keep",), ("keep",), ("mask", 0)], "put": []}
        self.told(self.made(rows, {"t": (1, "put")}), "t", {}, 1 + 3 + 1)

    def test_six_lines(self):
        rows = {"main": [("mask", 1), ("mask", 0)], "put": [("keep",)]}
        lines = {line: (2, "put") for line in "uvwxy"}
        program = self.made(rows, {"t": (1, "put"), **lines})
        self.told(program, "t", {line: 1 for line in "uvwxy"}, 1 + 1 + 5)
        self.told(program, "y", {"u": 3, "v": 0, "w": 2}, 1 + 5)


class RefusedTest(unittest.TestCase, Refusals):
    def test_programs_lines_and_allowances(self):
        program = small_program()
        calls = (longest_wait, wait_script, wait_ring)
        for told in calls:
            for value in odd_values():
                self.refuses(BadArgument, value, told, value, "tick", {})
                self.refuses(BadArgument, value, told, value, None, None)
            for value in odd_values() + ["main", "clock", "other", "Tick"]:
                self.refuses(BadLine, value, told, program, value, {})
                self.refuses(BadLine, value, told, program, value, None)
            wrong = [
                {"tick": 1}, {"tick": 0}, {"other": 1}, {"main": 1}, {"ring": 4}, {"ring": -1}, {"ring": True}, {"ring": False}, {"ring": 1.0}, {"ring": "1"},
                {"ring": None}, {"ring": [1]}, {None: 1}, {0: 1}, {("ring",): 1}, {"ring": 1, "tick": 1}, {"ring": 1, "alarm": 4}, {"alarm": 1, 3: 0},
                [("ring", 1)], ["ring"], "ring", ("ring", 1), None, {"ring"}, 0, [],
            ]
            for value in wrong + [odd for odd in odd_values() if not (type(odd) is dict and len(odd) == 0)]:
                self.refuses(BadNumber, value, told, program, "tick", value)
            for value in ({"ring": 1}, {"alarm": 1}, {"tick": 1}):
                self.refuses(BadNumber, value, told, program, "alarm", value)
            self.refuses(BadNumber, odd := {"ring": 0}, told, program, "ring", odd)
            for allowance in ({}, {"ring": 3}, {"ring": 0, "alarm": 2}):
                told(allowance=allowance, line="tick", program=program)
            told(program, "ring", {"alarm": 3})

    def test_what_was_given_stays(self):
        program, allowance = small_program(), {"ring": 2, "alarm": 1}
        for told in (longest_wait, wait_script, wait_ring):
            told(program, "tick", allowance)
            self.assertEqual(allowance, {"ring": 2, "alarm": 1})
        script, moves = wait_script(program, "tick", allowance)
        before = (list(script), list(moves))
        script.clear()
        moves.append(None)
        self.assertEqual(wait_script(program, "tick", allowance), before)


if __name__ == "__main__":
    unittest.main()
