"""[18], [1]: the deepest piles of frames, held against all moves."""

import random
import unittest

from maskedlevels.errors import BadArgument, BadNumber
from maskedlevels.machine import played
from maskedlevels.piles import deepest, pile_script
from maskedlevels.programs import Program
from tests.rounds import held_program, run_programs
from tests.values import Refusals, odd_values, small_program
from tests.walks import few_program

PROGRAMS = 200


class Piles:
    def told(self, program, many, *sizes):
        """Holds both calls against the greatest sum of sizes."""
        self.assertEqual(deepest(program, *sizes), many)
        pair = pile_script(program, *sizes)
        self.assertIs(type(pair), tuple)
        script, words = pair
        self.assertIs(type(script), list)
        self.assertIs(type(words), list)
        self.assertEqual([frame[0] for frame in played(program, script).frames()], words)
        given = sizes[0] if sizes and sizes[0] is not None else {}
        self.assertEqual(sum(given.get(word, 1) for word in words), many)
        return words


class WalkedTest(unittest.TestCase, Piles):
    def test_deepest(self):
        seen = set()
        for made in (few_program, held_program):
            for seed, (program, runs) in enumerate(run_programs(PROGRAMS, made)):
                draw = random.Random(seed)
                names = draw.sample(program.procedures(), draw.randint(0, len(program.procedures())))
                sizes = {name: draw.choice([0, 0, 1, 2, 7, 1000]) for name in names}
                self.told(program, runs.deepest({}))
                self.told(program, runs.deepest({}), None)
                self.told(program, runs.deepest(sizes), sizes)
                seen.add(runs.deepest({}))
        self.assertGreaterEqual(len(seen), 4)


class PilesTest(unittest.TestCase, Piles):
    def test_one_frame(self):
        program = Program(1, 2, {"x": 0}, {"main": []}, {})
        self.assertEqual(self.told(program, 1), ["main"])
        self.told(program, 1, {})
        self.assertEqual(pile_script(program), ([], ["main"]))
        self.told(program, 0, {"main": 0})
        self.told(program, 1000, {"main": 1000})

    def test_calls(self):
        rows = {"main": [("call", "a"), ("call", "b")], "a": [], "b": [("call", "c")], "c": [("call", "a")]}
        program = Program(1, 2, {"x": 0}, rows, {})
        self.assertEqual(self.told(program, 4), ["main", "b", "c", "a"])
        self.assertEqual(self.told(program, 1001, {"a": 1000, "b": 0, "c": 0})[0], "main")
        self.assertEqual(self.told(program, 3, {"a": 0}), ["main", "b", "c"])

    def test_lines_on_lines_and_calls_within_them(self):
        rows = {"main": [("call", "sub")], "sub": [], "low": [("call", "sub")], "high": [("call", "sub")]}
        program = Program(2, 2, {"x": 0}, rows, {"t": (1, "low"), "u": (2, "high")})
        self.assertEqual(self.told(program, 6), ["main", "sub", "low", "sub", "high", "sub"])
        self.assertEqual(self.told(program.with_guards({("sub", 0): 2}), 4), ["main", "low", "high", "sub"])
        self.told(program, 3 * 10 + 3, {"sub": 10})

    def test_masks_and_guards_keep_piles_shallow(self):
        rows = {"main": [("raise", 2), ("call", "sub"), ("mask", 0)], "sub": [("keep",)], "low": []}
        program = Program(2, 2, {"x": 0}, rows, {"t": (1, "low"), "u": (2, "low")})
        self.assertEqual(self.told(program, 3), ["main", "low", "low"])
        # The end of the line has a guard: above it none is served.
        self.told(program.with_guards({("low", 0): 2}), 2)

    def test_one_line_is_not_served_above_itself(self):
        program = Program(3, 2, {"x": 0}, {"main": [], "low": []}, {"t": (2, "low"), "u": (2, "low")})
        self.told(program, 2)

    def test_procedures_that_are_never_reached(self):
        rows = {"main": [("go", 2), ("call", "sub")], "sub": [("call", "more")], "more": []}
        program = Program(1, 2, {"x": 0}, rows, {})
        self.told(program, 1, {"sub": 1000, "more": 1000})

    def test_where_only_lines_open_the_way(self):
        rows = {"main": [("if", "x", 0, 2), ("call", "sub")], "sub": [("keep",)], "put": [("set", "x", 1)]}
        program = Program(1, 2, {"x": 0}, rows, {"t": (1, "put")})
        self.assertEqual(self.told(program, 3), ["main", "sub", "put"])
        self.assertEqual(self.told(program.with_guards({("main", 0): 1}), 2, {})[0], "main")

    def test_sizes_decide_which_pile_is_told(self):
        rows = {"main": [("call", "wide"), ("call", "deep")], "wide": [], "deep": [("call", "low")], "low": []}
        program = Program(1, 2, {"x": 0}, rows, {})
        self.assertEqual(self.told(program, 3), ["main", "deep", "low"])
        self.assertEqual(self.told(program, 4, {"wide": 3}), ["main", "wide"])
        self.assertEqual(self.told(program, 3, {"wide": 2, "low": 0})[:2], ["main", "wide"])

    def test_sizes_are_left_as_they_were(self):
        program = small_program()
        sizes = {"main": 3}
        before = deepest(program, sizes)
        pile_script(program, sizes)
        self.assertEqual(sizes, {"main": 3})
        sizes["main"] = 0
        self.assertEqual(deepest(program, {"main": 3}), before)


class RefusedTest(unittest.TestCase, Refusals):
    def test_programs_then_sizes(self):
        program = small_program()
        wrong = [
            {"other": 1}, {"tick": 1}, {"x": 1}, {"main": True}, {"main": False}, {"main": -1}, {"main": 1001}, {"main": 1.0},
            {"main": None}, {"main": "1"}, {"main": 1, "other": 1}, {1: 1}, {None: 1}, [("main", 1)], ("main", 1), "main", 1,
        ]
        right = [None, {}]
        for told in (deepest, pile_script):
            for value in odd_values():
                self.refuses(BadArgument, value, told, value)
                self.refuses(BadArgument, value, told, value, 1)
            for value in wrong + [odd for odd in odd_values() if not (odd is None or (type(odd) is dict and not odd))]:
                self.refuses(BadNumber, value, told, program, value)
            for value in right + [{"main": 0, "sub": 1000}]:
                told(program, sizes=value)


if __name__ == "__main__":
    unittest.main()
