"""[30], [1]: how many states there are, and all scripts with so many moves, held against all moves."""

import itertools
import random
import unittest

from maskedlevels.counting import Scripts, many_states
from maskedlevels.errors import BadArgument, BadNumber, BadScript, TooMany
from maskedlevels.machine import Machine, played
from maskedlevels.programs import Program
from tests.rounds import bare, held_program, run_programs, waiting_program
from tests.scripted import scripts_of
from tests.values import Refusals, odd_values, small_program
from tests.walks import few_program

PROGRAMS = 80
ROW = ("row", 0)


def wide_program(rows_of_line, alone=0):
    """A program with 800 states of its main procedure, and a line over each of them; some states more without it."""
    main = [("look", "a")] * alone + [("look", "a")] * 4 + [("any", "a")] + [("look", "a")] * 3 + [("any", "b"), ("any", "c")] + [("look", "a")] * 5
    rows = {"main": main, "put": [("look", "a")] * rows_of_line}
    guards = {("main", point): 1 for point in range(alone)}
    return Program(1, 5, {"a": 0, "b": 0, "c": 0}, rows, {"t": (1, "put")}, guards=guards)


class WalkedTest(unittest.TestCase):
    """Each answer for many programs, against all states that their moves lead to."""

    def test_states(self):
        folded = 0
        for made in (few_program, held_program, waiting_program):
            for program, runs in run_programs(PROGRAMS, made):
                states = {bare(state) for state in runs.moves}
                self.assertEqual(many_states(program), len(states))
                folded += len(states) < len(runs.moves)
        self.assertGreater(folded, 10)

    def test_scripts(self):
        amounts = {}
        for made in (few_program, held_program, waiting_program):
            for seed, (program, _) in enumerate(run_programs(PROGRAMS, made, 300)):
                draw = random.Random(seed)
                for moves in range(5):
                    wanted = scripts_of(program, moves)
                    scripts = Scripts(program, moves)
                    self.assertEqual((scripts.length, scripts.amount), (moves, len(wanted)))
                    self.assertEqual(list(scripts.each()), wanted)
                    for number in draw.sample(range(len(wanted)), min(8, len(wanted))):
                        self.assertEqual(scripts[number], wanted[number])
                        self.assertEqual(scripts.number_of(wanted[number]), number)
                        self.assertIs(wanted[number] in scripts, True)
                    amounts[min(len(wanted), 10)] = amounts.get(min(len(wanted), 10), 0) + 1
        self.assertGreater(amounts[10], 50)

    def test_bent_scripts(self):
        counts = {True: 0, False: 0}
        for made in (few_program, held_program):
            for seed, (program, _) in enumerate(run_programs(PROGRAMS, made, 300)):
                draw = random.Random(seed)
                wanted = scripts_of(program, 4)
                scripts = Scripts(program, 4)
                moves = [("serve", line) for line in program.lines()] + [("row", choice) for choice in range(3)]
                for script in draw.sample(wanted, min(4, len(wanted))):
                    at = draw.randrange(4)
                    for bent in (script[:at] + [draw.choice(moves)] + script[at + 1:], script[:at], script + [draw.choice(moves)], script[:at] + script[at + 1:] + [ROW]):
                        self.assertIs(bent in scripts, bent in wanted)
                        counts[bent in wanted] += 1
                        if bent in wanted:
                            self.assertEqual(scripts.number_of(bent), wanted.index(bent))
                            continue
                        with self.assertRaises(BadScript) as caught:
                            scripts.number_of(bent)
                        self.assertEqual(caught.exception.at, self.first_wrong(program, bent, 4))
        self.assertGreater(min(counts.values()), 100)

    def first_wrong(self, program, script, length):
        machine = Machine(program)
        for at, move in enumerate(script):
            if at == length or move not in machine.moves():
                return at
            machine(move)
        return len(script)


class StatesTest(unittest.TestCase):
    def made(self, rows, lines=None, **parts):
        return Program(2, 2, {"x": 0}, {"put": [], **rows}, {} if lines is None else lines, **parts)

    def test_small_ones(self):
        self.assertEqual(many_states(self.made({"main": []})), 1)
        self.assertEqual(many_states(self.made({"main": [("look", "x")] * 3})), 4)
        self.assertEqual(many_states(self.made({"main": [("go", 0), ("look", "x")]})), 1)
        self.assertEqual(many_states(self.made({"main": []}, {"t": (1, "put")})), 2)

    def test_which_line_is_served_is_no_part_of_one(self):
        self.assertEqual(many_states(self.made({"main": []}, {"t": (1, "put"), "u": (1, "put")})), 2)
        # Their levels are.
        self.assertEqual(many_states(self.made({"main": []}, {"t": (1, "put"), "u": (2, "put")})), 4)

    def test_stores_masks_kept_levels_and_what_is_below(self):
        self.assertEqual(many_states(self.made({"main": [("any", "x"), ("look", "x")]})), 1 + 2 + 2)
        self.assertEqual(many_states(self.made({"main": [("mask", 1), ("mask", 0), ("go", 0)]})), 3)
        self.assertEqual(many_states(self.made({"main": [("either", 2), ("mask", 1), ("keep",), ("mask", 0)]})), 2 + 2 + 2 + 2)
        # The mask below a line that is served, where it cannot be seen above.
        rows = {"main": [("either", 2), ("mask", 1), ("look", "x")], "put": []}
        guards = {("main", point): 2 for point in (0, 1, 3)}
        self.assertEqual(many_states(self.made(rows, {"t": (2, "put")}, guards=guards)), 1 + 1 + 2 + 2 + 2)

    def test_how_a_frame_began_is_no_part_of_one(self):
        rows = {"main": [("either", 3), ("mask", 1), ("go", 4), ("look", "x"), ("call", "sub")], "sub": [("mask", 2)]}
        self.assertEqual(many_states(self.made(rows)), 1 + 1 + 1 + 1 + 2 + 2 + 1 + 1)

    def test_twenty_thousand_states_and_one_more(self):
        self.assertEqual(many_states(wide_program(23)), 20000)
        for program in (wide_program(23, 1), wide_program(24)):
            with self.assertRaises(TooMany) as caught:
                many_states(program)
            self.assertIs(type(caught.exception.number), int)
            self.assertGreater(caught.exception.number, 20000)

    def test_very_many_states(self):
        cells = {name: 0 for name in "abcd"}
        rows = {"main": [("any", name) for name in "abcd"] + [("look", "a")] * 20, "put": [("any", name) for name in "abcd"] * 6}
        program = Program(3, 4, cells, rows, {"t": (1, "put"), "u": (2, "put"), "v": (3, "put")})
        with self.assertRaises(TooMany) as caught:
            many_states(program=program)
        self.assertGreater(caught.exception.number, 20000)


class ScriptsTest(unittest.TestCase, Refusals):
    def test_no_moves(self):
        for seed in range(10):
            scripts = Scripts(few_program(seed), 0)
            self.assertEqual((scripts.length, scripts.amount, scripts[0], list(scripts.each())), (0, 1, [], [[]]))
            self.assertEqual((scripts.number_of([]), [] in scripts, [ROW] in scripts), (0, True, False))

    def test_one_move_is_in_the_order_of_moves(self):
        program = small_program(guards={("clock", 0): 2})
        scripts = Scripts(moves=1, program=program)
        self.assertEqual(list(scripts.each()), [[move] for move in Machine(program).moves()])
        self.assertEqual([script[0] for script in scripts.each()], [("serve", "alarm"), ("serve", "ring"), ("serve", "tick"), ROW])

    def test_the_order_is_move_by_move(self):
        program = Program(2, 3, {"x": 0}, {"main": [("any", "x"), ("either", 0)], "put": []}, {"t": (1, "put"), "b": (1, "put")})
        scripts = list(Scripts(program, 3).each())
        order = {("serve", "b"): 0, ("serve", "t"): 1, ("row", 0): 2, ("row", 1): 3, ("row", 2): 4}
        self.assertEqual(scripts, sorted(scripts, key=lambda script: [order[move] for move in script]))
        self.assertEqual(len(scripts), len({tuple(script) for script in scripts}))

    def test_a_program_that_comes_to_rest_with_no_line(self):
        program = Program(1, 2, {"x": 0}, {"main": [("any", "x"), ("look", "x")]}, {})
        self.assertEqual([Scripts(program, moves).amount for moves in range(5)], [1, 2, 2, 0, 0])
        for moves in (3, 4, 1000):
            scripts = Scripts(program, moves)
            self.assertEqual((scripts.amount, list(scripts.each())), (0, []))
            for number in (0, -1, 1):
                self.refuses(BadNumber, number, scripts.__getitem__, number)
            self.assertIs([("row", 0)] * moves in scripts, False)
            self.refuses_script(scripts, [("row", 1), ROW, ROW], 2)
            self.refuses_script(scripts, [("row", 1), ROW], 2)

    def refuses_script(self, scripts, script, at):
        with self.assertRaises(BadScript) as caught:
            scripts.number_of(script)
        self.assertIs(type(caught.exception.at), int)
        self.assertEqual(caught.exception.at, at)
        self.assertIs(script in scripts, False)

    def test_scripts_of_a_thousand_moves(self):
        program = Program(2, 6, {"x": 0}, {"main": [("any", "x"), ("go", 0)], "put": []}, {line: (2, "put") for line in "abc"})
        scripts = Scripts(program, 1000)
        draw = random.Random(1)
        self.assertGreater(scripts.amount, 10 ** 300)
        for number in [0, 1, scripts.amount - 1, scripts.amount // 2] + [draw.randrange(scripts.amount) for _ in range(5)]:
            script = scripts[number]
            self.assertEqual(len(script), 1000)
            self.assertIsNotNone(played(program, script))
            self.assertEqual(scripts.number_of(script), number)
            self.assertIs(script in scripts, True)
        self.assertEqual(scripts[0][:2], [("serve", "a"), ROW])
        told = list(itertools.islice(scripts.each(), 5))
        self.assertEqual(told, [scripts[number] for number in range(5)])

    def test_how_many_scripts_there_are(self):
        program = Program(1, 2, {"x": 0}, {"main": [("either", 0), ("go", 0)]}, {})
        counts = [Scripts(program, moves).amount for moves in range(20)]
        self.assertEqual(counts[:7], [1, 2, 3, 5, 8, 13, 21])
        amounts = [Scripts(program, moves).amount for moves in (998, 999, 1000)]
        self.assertEqual(amounts[0] + amounts[1], amounts[2])

    def test_states_times_moves(self):
        program = wide_program(23)
        self.assertGreater(Scripts(program, 10).amount, 0)
        for moves in (11, 1000):
            with self.assertRaises(TooMany) as caught:
                Scripts(program, moves)
            self.assertEqual(caught.exception.number, 20000 * moves)
        self.assertEqual(Scripts(program, 0).amount, 1)
        with self.assertRaises(TooMany) as caught:
            Scripts(wide_program(24), 0)
        self.assertGreater(caught.exception.number, 20000)
        rows = {"main": [("look", "x")] * 9, "put": [("look", "x")] * 18}
        program = Program(1, 2, {"x": 0}, rows, {"t": (1, "put")})
        self.assertEqual(many_states(program), 200)
        self.assertEqual(Scripts(program, 1000).length, 1000)
        rows["main"].append(("look", "x"))
        program = Program(1, 2, {"x": 0}, rows, {"t": (1, "put")}, guards={("main", 10): 1})
        self.assertEqual(many_states(program), 201)
        with self.assertRaises(TooMany) as caught:
            Scripts(program, 1000)
        self.assertEqual(caught.exception.number, 201000)
        self.assertEqual(Scripts(program, 995).length, 995)
        rows = [("look", "a")] * 3 + [("any", "a")] + [("look", "a")] * 5 + [("any", "b")] + [("look", "a")] * 14
        program = Program(1, 5, {"a": 0, "b": 0}, {"main": rows}, {})
        self.assertEqual(many_states(program), 409)
        with self.assertRaises(TooMany) as caught:
            Scripts(program, 489)
        self.assertEqual(caught.exception.number, 200001)
        self.assertEqual(Scripts(program, 488).amount, 0)

    def test_numbers_of_scripts_that_are_none(self):
        program = Program(1, 2, {"x": 0}, {"main": [("look", "x")] * 4, "put": []}, {"t": (1, "put")})
        scripts = Scripts(program, 3)
        serve = ("serve", "t")
        for script, at in [
            ([], 0), ([ROW], 1), ([ROW, ROW], 2), ([ROW] * 4, 3), ([ROW] * 9, 3), ([serve, serve], 1), ([serve, serve, None], 1), ([serve, ROW, ROW, serve], 3),
            ([("row", 1)], 0), ([ROW, ("serve", "u")], 1), ([ROW, ROW, ("row", False)], 2), ([ROW, ROW, ["row", 0]], 2), ([ROW, ROW, "row:0"], 2),
            ([ROW, ROW, ROW, None], 3), ([None], 0), ((ROW, ROW, ROW), 0), ("row", 0), (None, 0), ({}, 0),
        ]:
            self.refuses_script(scripts, script, at)
        for odd in odd_values():
            if str(odd) not in ("[]", "['main']", "[('row', 0)]"):
                self.assertIs(odd in scripts, False)
                with self.assertRaises(BadScript) as caught:
                    scripts.number_of(odd)
                self.assertEqual(caught.exception.at, 0)
            self.assertIs([ROW, odd, ROW] in scripts, False)
            with self.assertRaises(BadScript) as caught:
                scripts.number_of([ROW, odd])
            self.assertEqual(caught.exception.at, 1)
        self.assertEqual(scripts.number_of(script=[serve, ROW, serve]), 0)

    def test_numbers_that_are_none(self):
        scripts = Scripts(small_program(), 2)
        for value in odd_values() + [-1, scripts.amount, scripts.amount + 5, True, False, "0", 0.0, (0,), slice(0, 1)]:
            self.refuses(BadNumber, value, scripts.__getitem__, value)
        self.assertEqual([scripts[number] for number in range(scripts.amount)], list(scripts.each()))

    def test_what_is_no_program_and_no_number_of_moves(self):
        for value in odd_values():
            self.refuses(BadArgument, value, many_states, value)
            self.refuses(BadArgument, value, Scripts, value, 0)
            self.refuses(BadArgument, value, Scripts, value, None)
        for value in odd_values() + [1001, -1, True, False, "1", 1.0]:
            self.refuses(BadNumber, value, Scripts, small_program(), value)
            # Numbers are looked at ahead of the states.
            self.refuses(BadNumber, value, Scripts, wide_program(24), value)
        self.assertEqual(Scripts(Program(1, 2, {"x": 0}, {"main": [("go", 0)]}, {}), 1000).amount, 1)

    def test_it_never_changes(self):
        scripts = Scripts(small_program(), 3)
        for name in ("length", "amount"):
            with self.assertRaises(AttributeError):
                setattr(scripts, name, 1)
        wanted = list(scripts.each())
        found = []
        for script in scripts.each():
            found.append(list(script))
            script.reverse()
            script.append(None)
        self.assertEqual(found, wanted)
        script = scripts[1]
        script.clear()
        self.assertEqual(scripts[1], wanted[1])
        one, other = scripts.each(), scripts.each()
        self.assertEqual([next(one), next(other), next(one)], [wanted[0], wanted[0], wanted[1]])
        with self.assertRaises(TypeError):
            iter(scripts)


if __name__ == "__main__":
    unittest.main()
