"""[1], [6], [7], [8]: runs of many programs, the machine held against a plain player."""

import random
import unittest

from maskedlevels.errors import AtRest, BadNumber
from maskedlevels.machine import Board, Machine, is_move, places_of, played
from maskedlevels.steps import can_serve, is_store
from tests.plain import Plain, any_program

PROGRAMS = 300
MOVES = 60


class RunsTest(unittest.TestCase):
    def agree(self, machine, plain):
        self.assertEqual(machine.place(), plain.place())
        self.assertEqual(machine.frames(), plain.frames())
        self.assertEqual(machine.moves(), plain.moves())
        self.assertEqual(machine.at_rest(), plain.at_rest())
        self.assertEqual((machine.store, machine.mask), machine.place()[3:5])

    def holds_at(self, machine):
        """What is so at each place of each run."""
        procedure, point, kept, store, mask, floor = machine.place()
        levels = machine.program.levels
        self.assertTrue(0 <= floor <= mask <= levels and 0 <= kept <= levels)
        self.assertTrue(is_store(machine.program, store))
        lines = can_serve(machine.program, procedure, point, mask)
        self.assertEqual([move[1] for move in machine.moves() if move[0] == "serve"], lines)
        self.assertTrue(all(is_move(move) for move in machine.moves()))

    def test_a_machine_goes_as_the_plain_player_does(self):
        for seed in range(PROGRAMS):
            draw = random.Random(seed)
            program = any_program(seed)
            machine, plain, script, places = Machine(program), Plain(program), [], []
            for _ in range(MOVES):
                self.agree(machine, plain)
                self.holds_at(machine)
                places.append(machine.place())
                if not machine.moves():
                    break
                move = draw.choice(machine.moves())
                machine(move)
                plain.make(move)
                script.append(move)
            self.agree(played(program, script), plain)
            self.assertEqual(list(places_of(program, script))[:len(places)], places)

    def test_a_script_of_a_board_is_played_to_the_same_place(self):
        for seed in range(PROGRAMS):
            draw = random.Random(seed)
            board = Board(any_program(seed))
            for _ in range(MOVES):
                if draw.random() < 0.3:
                    board.arrive(draw.choice(board.program.lines()))
                try:
                    board.step(draw.choice([0, 0, 1, 2, 3]))
                except (AtRest, BadNumber):
                    pass
            machine = played(board.program, board.script())
            self.assertEqual(machine.place(), board.place())
            self.assertEqual((machine.frames(), machine.moves()), (board.frames(), board.moves()))

    def test_each_run_is_one_of_a_board_when_its_lines_come_in_time(self):
        for seed in range(PROGRAMS):
            draw = random.Random(seed + 1)
            machine = Machine(any_program(seed))
            board = Board(machine.program)
            for _ in range(MOVES):
                if not machine.moves():
                    break
                kind, what = move = draw.choice(machine.moves())
                if kind == "serve":
                    board.arrive(what)
                machine(move)
                self.assertEqual(board.step(0 if kind == "serve" else what), move)
                self.assertEqual(board.frames(), machine.frames())
                self.assertEqual(board.place(), machine.place())


if __name__ == "__main__":
    unittest.main()
