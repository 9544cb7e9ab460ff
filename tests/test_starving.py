"""[15], [16], [1]: lines that can be starved and activations without end, held against all moves."""

import unittest

from maskedlevels.errors import BadArgument, BadLine
from maskedlevels.machine import played
from maskedlevels.programs import Program
from maskedlevels.starving import endless, endless_ring, starved, starving
from tests.rounds import Rings, held_program, run_programs, waiting_program
from tests.values import Refusals, odd_values, small_program
from tests.walks import few_program

PROGRAMS = 150


def bound_behind(program, script):
    machine = played(program, script)
    return max(machine.mask, program.guard_at(*machine.place()[:2]))


class Starvings(Rings):
    def holds_starving(self, program, line):
        """The pair for a line that can be starved, played; whether it is at rest."""
        level, _ = program.line_of(line)
        pair = starving(program, line)
        self.assertIs(type(pair), tuple)
        script, ring = pair
        self.assertGreaterEqual(bound_behind(program, script), level)
        if ring == []:
            self.assertIs(played(program, script).at_rest(), True)
            return True
        self.holds_ring(program, script, ring, level, False)
        return False

    def told_starved(self, program, lines):
        self.assertEqual(starved(program), lines)
        for line in program.lines():
            if line in lines:
                self.holds_starving(program, line)
            else:
                self.assertIsNone(starving(program, line))

    def told_endless(self, program, arrivals, floors):
        self.assertEqual(endless(program, arrivals=arrivals), floors)
        for floor in range(-1, program.levels + 2):
            pair = endless_ring(program, floor, arrivals=arrivals)
            if floor not in floors:
                self.assertIsNone(pair)
                continue
            self.assertIs(type(pair), tuple)
            script, ring = pair
            self.assertEqual(self.holds_ring(program, script, ring, 0, arrivals), floor)
            self.assertEqual(played(program, script).place()[5], floor)


class WalkedTest(unittest.TestCase, Starvings):
    """Each answer for many programs, against all states that their moves lead to."""

    def test_starved(self):
        counts = {}
        for made in (few_program, held_program, waiting_program):
            for program, runs in run_programs(PROGRAMS, made):
                shut = {level for level in range(1, program.levels + 1) if runs.starved(level)}
                wanted = [line for line in program.lines() if program.line_of(line)[0] in shut]
                self.told_starved(program, wanted)
                for line in program.lines():
                    sort = starving(program, line)
                    sort = None if sort is None else bool(sort[1])
                    counts[sort] = counts.get(sort, 0) + 1
        self.assertGreater(min(counts.values()), 40, counts)
        self.assertEqual(len(counts), 3)

    def test_endless(self):
        unlike = 0
        for made in (few_program, held_program, waiting_program):
            for program, runs in run_programs(PROGRAMS, made):
                for arrivals in (False, True):
                    self.told_endless(program, arrivals, sorted(runs.ringed(0, arrivals)))
                unlike += endless(program) != endless(program, arrivals=True)
        self.assertGreater(unlike, 5)


class StarvedTest(unittest.TestCase, Starvings):
    def made(self, rows, lines, levels=2, size=3, start=None, guards=None):
        return Program(levels, size, {"x": 0} if start is None else start, rows, lines, guards=guards)

    def test_nothing_is_starved_at_rest_with_no_bound(self):
        program = self.made({"main": [("raise", 2), ("mask", 0)], "serve": []}, {"t": (1, "serve"), "u": (2, "serve")})
        self.told_starved(program, [])

    def test_at_rest(self):
        lines = {"t": (1, "serve"), "u": (2, "serve"), "a": (2, "serve")}
        for bound, wanted in [(0, []), (1, ["t"]), (2, ["a", "t", "u"])]:
            masked = self.made({"main": [("raise", bound)], "serve": []}, lines)
            self.told_starved(masked, wanted)
            guards = {("main", 1): bound} if bound else None
            self.told_starved(self.made({"main": [("keep",)], "serve": []}, lines, guards=guards), wanted)
        self.assertEqual(starving(self.made({"main": [("raise", 2)], "serve": []}, lines), "u"), ([("row", 0)], []))

    def test_the_greater_one_of_mask_and_guard(self):
        lines = {"t": (1, "serve"), "u": (2, "serve"), "v": (3, "serve")}
        for mask, guard in [(1, 2), (2, 1)]:
            program = self.made({"main": [("mask", mask)], "serve": []}, lines, levels=3, guards={("main", 1): guard})
            self.told_starved(program, ["t", "u"])

    def test_a_ring_in_the_main_one(self):
        rows = {"main": [("raise", 1), ("keep",), ("go", 1)], "serve": []}
        lines = {"t": (1, "serve"), "u": (2, "serve")}
        self.told_starved(self.made(rows, lines), ["t"])
        # It is starved before any rest, and no rest is come to.
        self.assertNotEqual(starving(self.made(rows, lines), "t")[1], [])

    def test_a_ring_of_one_row(self):
        program = self.made({"main": [("go", 0)], "serve": []}, {"t": (1, "serve")}, guards={("main", 0): 1})
        self.told_starved(program, ["t"])
        self.assertEqual(starving(program, "t"), ([], [("row", 0)]))
        self.told_starved(program.with_guards({}), [])

    def test_guards_alone_and_each_point_of_the_ring(self):
        rows = {"main": [("keep",), ("look", "x"), ("go", 0)], "serve": []}
        guards = {("main", point): 1 for point in range(3)}
        self.told_starved(self.made(rows, {"t": (1, "serve")}, guards=guards), ["t"])
        for point in range(3):
            fewer = {spot: 1 for spot in guards if spot != ("main", point)}
            self.told_starved(self.made(rows, {"t": (1, "serve")}, guards=fewer), [])

    def test_masks_and_guards_take_turns(self):
        rows = {"main": [("raise", 1), ("mask", 0), ("go", 0)], "serve": []}
        lines = {"t": (1, "serve")}
        self.told_starved(self.made(rows, lines, guards={("main", 0): 1, ("main", 2): 1}), ["t"])
        self.told_starved(self.made(rows, lines, guards={("main", 0): 1}), [])
        self.told_starved(self.made(rows, lines, guards={("main", 2): 1}), [])

    def test_a_line_whose_level_is_passed_now_and_again(self):
        rows = {"main": [("raise", 2), ("keep",), ("mask", 1), ("go", 0)], "serve": []}
        program = self.made(rows, {"t": (1, "serve"), "u": (2, "serve")})
        self.told_starved(program, ["t"])
        self.assertIsNone(starving(program, "u"))

    def test_a_ring_that_goes_through_calls(self):
        rows = {"main": [("raise", 1), ("call", "sub"), ("go", 1)], "sub": [("keep",)], "serve": []}
        lines = {"t": (1, "serve")}
        self.told_starved(self.made(rows, lines), ["t"])
        rows["sub"] = [("mask", 0), ("raise", 1)]
        self.told_starved(self.made(rows, lines), [])
        self.told_starved(self.made(rows, lines, guards={("sub", 1): 1}), ["t"])

    def test_the_end_of_what_is_called_counts(self):
        rows = {"main": [("call", "sub"), ("go", 0)], "sub": [("mask", 0)], "serve": []}
        guards = {("main", 0): 1, ("main", 1): 1, ("sub", 0): 1, ("sub", 1): 1}
        self.told_starved(self.made(rows, {"t": (1, "serve")}, guards=guards), ["t"])
        for spot in guards:
            fewer = {other: 1 for other in guards if other != spot}
            self.told_starved(self.made(rows, {"t": (1, "serve")}, guards=fewer), [])

    def test_a_ring_in_what_is_called(self):
        rows = {"main": [("call", "sub")], "sub": [("raise", 1), ("keep",), ("go", 1)], "serve": []}
        program = self.made(rows, {"t": (1, "serve")})
        self.told_starved(program, ["t"])
        self.assertEqual(played(program, starving(program, "t")[0]).place()[0], "sub")

    def test_a_ring_with_a_choice(self):
        rows = {"main": [("raise", 1), ("either", 1), ("mask", 0)], "serve": []}
        self.told_starved(self.made(rows, {"t": (1, "serve")}), ["t"])

    def test_a_ring_that_counts(self):
        rows = {"main": [("raise", 1), ("add", "x", 1), ("if", "x", 2, 4), ("go", 1), ("keep",), ("go", 1)], "serve": []}
        program = self.made(rows, {"t": (1, "serve")})
        self.told_starved(program, ["t"])
        self.assertEqual(len(starving(program, "t")[1]), 10)

    def test_an_activation_above_keeps_out_whatever_the_masks_below_are(self):
        rows = {"main": [], "spin": [("go", 0)], "serve": []}
        lines = {"t": (1, "serve"), "u": (2, "spin"), "v": (2, "serve"), "w": (3, "serve")}
        program = self.made(rows, lines, levels=3)
        self.told_starved(program, ["t", "u", "v"])
        self.assertEqual(starving(program, "t"), ([("serve", "u")], [("row", 0)]))
        self.told_starved(program.with_guards({("main", 0): 2}), ["t", "u", "v"])
        self.told_starved(program.with_guards({("spin", 0): 3}), ["t", "u", "v", "w"])

    def test_a_ring_that_only_lines_make_starves_nothing(self):
        # The mask is raised for ever only if the line above comes again and again.
        rows = {"main": [("raise", 1), ("if", "x", 0, 4), ("set", "x", 0), ("go", 1), ("mask", 0)], "put": [("set", "x", 1)], "serve": []}
        program = self.made(rows, {"t": (1, "serve"), "u": (2, "put")})
        self.told_starved(program, [])
        self.told_endless(program, False, [])
        self.told_endless(program, True, [0])

    def test_where_lines_lead_first(self):
        rows = {"main": [("if", "x", 0, 3), ("raise", 1), ("go", 2)], "put": [("set", "x", 1)], "serve": []}
        self.told_starved(self.made(rows, {"t": (1, "serve"), "u": (2, "put")}), ["t"])
        self.told_starved(self.made(rows, {"t": (1, "serve")}), [])

    def test_no_lines(self):
        self.told_starved(self.made({"main": [("raise", 2)]}, {}), [])


class EndlessTest(unittest.TestCase, Starvings):
    def test_nothing_goes_on_at_rest(self):
        program = Program(2, 2, {"x": 0}, {"main": [("keep",)], "put": [("add", "x", 1)]}, {"t": (1, "put")})
        self.told_endless(program, False, [])
        self.told_endless(program, True, [])

    def test_lines_alone_are_no_rows_of_the_activation(self):
        rows = {"main": [("keep",), ("keep",)], "put": [("add", "x", 1)], "more": [("look", "x")]}
        program = Program(2, 2, {"x": 0}, rows, {"t": (1, "put"), "u": (2, "more")})
        self.told_endless(program, True, [])

    def test_each_floor(self):
        rows = {"main": [("go", 0)], "low": [("keep",), ("go", 0)], "mid": [("keep",)], "high": [("call", "sub")], "sub": [("either", 0)]}
        program = Program(4, 2, {"x": 0}, rows, {"a": (1, "low"), "b": (2, "mid"), "c": (4, "high")})
        self.told_endless(program, False, [0, 1, 4])
        self.told_endless(program, True, [0, 1, 4])

    def test_one_that_goes_on_only_when_lines_are_served_in_it(self):
        wait = [("if", "x", 0, 3), ("set", "x", 0), ("go", 0)]
        rows = {"main": [("keep",)], "wait": wait, "put": [("set", "x", 1)]}
        program = Program(3, 2, {"x": 1}, rows, {"t": (2, "wait"), "u": (3, "put")})
        self.told_endless(program, False, [])
        self.told_endless(program, True, [2])
        self.told_endless(program.with_guards({("wait", 0): 3}), True, [2])
        self.told_endless(program.with_guards({("wait", point): 3 for point in range(3)}), True, [])

    def test_one_whose_rows_are_in_what_it_calls(self):
        rows = {"main": [("call", "sub"), ("if", "x", 1, 0)], "sub": [("set", "x", 0)], "put": [("set", "x", 1)]}
        program = Program(1, 2, {"x": 0}, rows, {"t": (1, "put")})
        self.told_endless(program, False, [])
        self.told_endless(program, True, [0])

    def test_a_line_that_never_returns_is_no_ring_below(self):
        rows = {"main": [("keep",)], "spin": [("go", 0)]}
        program = Program(2, 2, {"x": 0}, rows, {"t": (1, "spin")})
        self.told_endless(program, False, [1])
        self.told_endless(program, True, [1])

    def test_arrivals_are_none_if_nothing_is_said(self):
        rows = {"main": [("if", "x", 0, 3), ("set", "x", 0), ("go", 0)], "put": [("set", "x", 1)]}
        program = Program(1, 2, {"x": 0}, rows, {"t": (1, "put")})
        self.assertEqual((endless(program), endless(program, arrivals=True)), ([], [0]))
        self.assertIsNone(endless_ring(program, 0))
        self.assertIsNotNone(endless_ring(program, 0, arrivals=True))


class RefusedTest(unittest.TestCase, Refusals):
    def test_programs(self):
        for value in odd_values():
            self.refuses(BadArgument, value, starved, value)
            self.refuses(BadArgument, value, starving, value, None)
            self.refuses(BadArgument, value, endless, value, arrivals=None)
            self.refuses(BadArgument, value, endless_ring, value, 0, arrivals=None)

    def test_lines(self):
        program = small_program()
        for value in odd_values() + ["main", "clock", "x", "other"]:
            self.refuses(BadLine, value, starving, program, value)

    def test_arrivals(self):
        program = small_program()
        for value in [odd for odd in odd_values() if type(odd) is not bool] + [0, 1]:
            self.refuses(BadArgument, value, endless, program, arrivals=value)
            self.refuses(BadArgument, value, endless_ring, program, 0, arrivals=value)
            self.refuses(BadArgument, value, endless_ring, program, "no floor", arrivals=value)
        with self.assertRaises(TypeError):
            endless(program, True)
        with self.assertRaises(TypeError):
            endless_ring(program, 0, True)

    def test_what_is_no_floor_has_no_ring(self):
        program = Program(2, 2, {"x": 0}, {"main": [("go", 0)], "spin": [("go", 0)]}, {"t": (1, "spin")})
        self.assertEqual(endless(program), [0, 1])
        for value in odd_values() + [2, 3, "0", 0.0]:
            for arrivals in (False, True):
                self.assertIsNone(endless_ring(program, value, arrivals=arrivals))


if __name__ == "__main__":
    unittest.main()
