"""[22]: consoles answer rows of words, each held against the calls that it stands for."""

import unittest

from maskedlevels.consoles import Console
from maskedlevels.errors import BadArgument, NoRow, NothingLeft
from maskedlevels.masks import masks_left
from maskedlevels.notes import write_move
from maskedlevels.piles import deepest
from maskedlevels.programs import Program
from maskedlevels.reached import masks_at
from maskedlevels.starving import endless, starved, starving
from maskedlevels.stretches import longest
from tests.rounds import held_program
from tests.values import Refusals, odd_values
from tests.walks import few_program

PROGRAMS = 40


def spinning():
    rows = {
        "main": [("keep",)] * 10 + [("call", "sub"), ("either", 10), ("either", 15), ("raise", 1), ("go", 14)],
        "sub": [("either", 2), ("raise", 2)], "spin": [("go", 0)], "put": [("add", "x", 1)],
    }
    return Program(4, 2, {"x": 0}, rows, {"t": (1, "put"), "u": (3, "spin"), "v": (4, "put")}, guards={("main", 10): 2, ("main", 2): 4, ("sub", 0): 3})


class ConsoleTest(unittest.TestCase, Refusals):
    def setUp(self):
        self.program = spinning()
        self.console = Console(self.program)

    def test_guards(self):
        self.assertEqual(self.console.say("guards"), ["main 2 4", "main 10 2", "sub 0 3"])
        self.assertEqual(self.console.say("guard main 9 1"), [])
        self.assertEqual(self.console.say(row="guard main 11 4"), [])
        self.assertEqual(self.console.say("guards"), ["main 2 4", "main 9 1", "main 10 2", "main 11 4", "sub 0 3"])
        self.assertEqual(self.console.say("guard main 2 0"), [])
        self.assertEqual(self.console.say("guard spin 1 4"), [])
        self.assertEqual(self.console.say("guards"), ["main 9 1", "main 10 2", "main 11 4", "spin 1 4", "sub 0 3"])

    def test_no_guards(self):
        self.assertEqual(Console(program=self.program.with_guards({})).say("guards"), [])

    def test_changes_and_undo(self):
        self.assertEqual(self.console.say("changes"), ["0"])
        for many in range(12):
            self.console.say("guard main 3 1")
            self.assertEqual(self.console.say("changes"), [str(many + 1)])
        for many in range(11, -1, -1):
            self.assertEqual(self.console.say("undo"), [])
            self.assertEqual(self.console.say("changes"), [str(many)])
        self.assertEqual(self.console.say("guards"), ["main 2 4", "main 10 2", "sub 0 3"])
        for _ in range(2):
            with self.assertRaises(NothingLeft):
                self.console.say("undo")
        self.assertEqual(self.console.say("changes"), ["0"])

    def test_masks(self):
        self.assertEqual(self.console.say("masks sub"), ["0 0", "0 2", "2 2"])
        self.assertEqual(self.console.say("masks main"), ["0 0", "0 2"])
        self.assertEqual(self.console.say("masks put"), [])

    def test_starved_and_scripts(self):
        self.assertEqual(self.console.say("starved"), ["t", "u"])
        self.assertEqual(self.console.say("script u"), ["serve:u", "ring", "row:0"])
        self.assertEqual(self.console.say("script v"), ["never"])
        self.assertEqual(self.console.say("guard main 15 4"), [])
        self.assertEqual(self.console.say("starved"), ["t", "u", "v"])
        told = self.console.say("script v")
        self.assertEqual(told[-1], "ring")
        self.assertEqual(set(told), {"row:0", "row:1", "ring"})

    def test_choices_in_scripts(self):
        rows = {"main": [("any", "x"), ("if", "x", 5, 3), ("go", 0), ("raise", 1)], "put": []}
        console = Console(Program(1, 6, {"x": 0}, rows, {"t": (1, "put")}))
        self.assertEqual(console.say("script t"), ["row:5", "row:0", "row:0", "ring"])

    def test_endless(self):
        self.assertEqual(self.console.say("endless"), ["0", "3"])
        self.assertEqual(Console(Program(1, 2, {"x": 0}, {"main": []}, {})).say("endless"), [])

    def test_endless_is_that_without_arrivals(self):
        rows = {"main": [("if", "x", 0, 3), ("set", "x", 0), ("go", 0)], "put": [("set", "x", 1)]}
        program = Program(1, 2, {"x": 0}, rows, {"t": (1, "put")})
        self.assertEqual(endless(program, arrivals=True), [0])
        self.assertEqual(Console(program).say("endless"), [])

    def test_longest(self):
        self.assertEqual(self.console.say("longest 1"), ["none"])
        self.assertEqual(self.console.say("longest 3"), ["none"])
        self.assertEqual(self.console.say("longest 4"), [str(longest(self.program, 4))])
        self.assertEqual(self.console.say("longest 4"), ["1"])

    def test_deepest(self):
        self.assertEqual(self.console.say("deepest"), ["5"])

    def test_reached(self):
        self.assertEqual(self.console.say("reached main 11"), ["0", "2"])
        self.assertEqual(self.console.say("reached spin 0"), ["3"])
        self.assertEqual(self.console.say("reached spin 1"), [])

    def test_answers_are_of_the_program_as_it_is_now(self):
        before = {row: self.console.say(row) for row in ("starved", "deepest", "masks sub", "longest 4")}
        self.console.say("guard main 0 4")
        self.console.say("guard main 1 4")
        self.console.say("guard main 3 4")
        self.assertEqual(self.console.say("longest 4"), ["4"])
        for _ in range(3):
            self.console.say("undo")
        self.assertEqual({row: self.console.say(row) for row in before}, before)

    def test_answers_belong_to_the_caller(self):
        for row in ("guards", "starved", "masks sub", "endless", "changes", "undo", "script u", "guard main 0 1"):
            console = Console(self.program)
            console.say("guard main 0 1")
            before = Console(self.program)
            before.say("guard main 0 1")
            told = console.say(row)
            told.append("more")
            console = Console(self.program)
            console.say("guard main 0 1")
            self.assertEqual(console.say(row), told[:-1])
        self.assertEqual(self.program, spinning())

    def test_two_consoles_of_one_program(self):
        other = Console(self.program)
        other.say("guard main 0 1")
        self.assertEqual(self.console.say("changes"), ["0"])


class ManyProgramsTest(unittest.TestCase):
    def test_each_row_tells_what_the_calls_tell(self):
        for made in (few_program, held_program):
            for seed in range(PROGRAMS):
                program = made(seed)
                console = Console(program)
                for procedure in program.procedures():
                    pairs = [f"{one} {other}" for one, other in masks_left(program, procedure)]
                    self.assertEqual(console.say(f"masks {procedure}"), pairs)
                    for point in range(len(program[procedure]) + 1):
                        masks = [str(mask) for mask in masks_at(program, procedure, point)]
                        self.assertEqual(console.say(f"reached {procedure} {point}"), masks)
                self.assertEqual(console.say("starved"), starved(program))
                self.assertEqual(console.say("endless"), [str(floor) for floor in endless(program)])
                self.assertEqual(console.say("deepest"), [str(deepest(program))])
                for level in range(1, program.levels + 1):
                    many = longest(program, level)
                    self.assertEqual(console.say(f"longest {level}"), ["none" if many is None else str(many)])
                for line in program.lines():
                    pair = starving(program, line)
                    words = ["never"] if pair is None else [*map(write_move, pair[0]), "ring", *map(write_move, pair[1])]
                    self.assertEqual(console.say(f"script {line}"), words)


class RefusedTest(unittest.TestCase, Refusals):
    def test_programs(self):
        for value in odd_values():
            self.refuses(BadArgument, value, Console, value)

    def test_rows_that_are_none(self):
        console = Console(spinning())
        console.say("guard main 0 1")
        wrong = [
            "", " ", "help", "Guards", "guards ", " guards", "guards 1", "guards  ", "guard", "guard main", "guard main 0",
            "guard main 0 1 1", "guard  main 0 1", "guard main  0 1", "guard main 0 1 ", "guard main 0\t1", "guard main 0 1\n",
            "guard other 0 1", "guard t 0 1", "guard x 0 1", "guard main 16 1", "guard main -1 1", "guard main 00 1", "guard main 01 1",
            "guard main 0 01", "guard main 0 00", "guard main 0 5", "guard main 0 -1", "guard main 0 +1", "guard main 0 one",
            "guard main 1.0 1", "guard main 0 1.", "guard main \u0661 1", "guard main 100 1", "guard main " + "1" * 5000 + " 1", "guard sub 3 1",
            "guard 0 main 1", "undo 1", "undo undo", "changes 0", "masks", "masks t", "masks other", "masks main sub", "masks  main",
            "starved t", "endless 0", "longest", "longest 0", "longest 5", "longest 01", "longest main", "longest 1 1", "longest -1",
            "deepest 1", "reached main", "reached main 16", "reached spin 2", "reached other 0", "reached main 0 0", "reached main 007",
            "script", "script main", "script put", "script w", "script t u", "script  t", "scripts t", "guard\nmain 0 1",
        ]
        for value in wrong + odd_values() + [["guards"], b"guards", ("guards",)]:
            self.refuses(NoRow, value, console.say, value)
        self.assertEqual(console.say("changes"), ["1"])
        self.assertEqual(console.say("guards"), ["main 0 1", "main 2 4", "main 10 2", "sub 0 3"])

    def test_the_ends_of_the_numbers(self):
        console = Console(spinning())
        for row in ("guard main 15 4", "guard main 0 0", "guard main 0 4", "guard put 1 1", "reached main 15", "longest 1", "longest 4"):
            console.say(row)
        self.assertEqual(console.say("changes"), ["4"])


if __name__ == "__main__":
    unittest.main()
