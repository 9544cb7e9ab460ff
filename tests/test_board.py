"""[1], [8]: boards, in which lines wait until they can be served."""

import unittest

from maskedlevels.errors import AtRest, BadLine, BadMove, BadNumber, BadScript
from maskedlevels.machine import Board, Machine, played
from maskedlevels.programs import Program
from tests.values import odd_values

ROW = ("row", 0)


def board_program():
    procedures = {
        "main": [("any", "x"), ("raise", 2), ("either", 3), ("mask", 1), ("call", "sub")],
        "sub": [("look", "x")],
        "work": [("add", "x", 1)],
    }
    lines = {"d": (1, "work"), "a": (1, "work"), "c": (2, "work"), "b": (2, "sub"), "e": (3, "sub")}
    return Program(3, 4, {"x": 0}, procedures, lines, guards={("main", 5): 3})


def state_of(board):
    """All that a board tells."""
    return (board.place(), board.frames(), board.moves(), board.pending(), board.script())


class BoardTest(unittest.TestCase):
    def setUp(self):
        self.board = Board(board_program())

    def test_a_board_is_a_machine_at_its_start(self):
        self.assertIsInstance(self.board, Machine)
        self.assertEqual(self.board.place(), Machine(board_program()).place())
        self.assertEqual((self.board.pending(), self.board.script()), ([], []))
        self.assertEqual(Board(program=board_program()).program, board_program())

    def test_lines_that_wait_are_told_ascending(self):
        for line, pending in [("d", ["d"]), ("a", ["a", "d"]), ("e", ["a", "d", "e"]), ("b", ["a", "b", "d", "e"])]:
            self.assertIsNone(self.board.arrive(line))
            self.assertEqual(self.board.pending(), pending)
        self.assertEqual(self.board.place(), ("main", 0, 0, (0,), 0, 0))

    def test_a_line_waits_once_however_often_it_comes(self):
        for _ in range(3):
            self.board.arrive(line="a")
        self.assertEqual(self.board.pending(), ["a"])
        self.assertEqual([self.board.step() for _ in range(4)], [("serve", "a"), ROW, ROW, ROW])
        self.assertEqual(self.board.pending(), [])

    def test_a_line_that_comes_again_waits_again(self):
        self.board.arrive("a")
        self.assertEqual(self.board.step(), ("serve", "a"))
        self.assertEqual(self.board.pending(), [])
        self.board.arrive("a")
        self.board.arrive("a")
        self.assertEqual(self.board.pending(), ["a"])
        self.assertEqual([self.board.step() for _ in range(3)], [ROW, ROW, ("serve", "a")])
        self.assertEqual(self.board.pending(), [])

    def test_which_line_is_served_first(self):
        for line in ("d", "a", "c", "b"):
            self.board.arrive(line)
        self.assertEqual(self.board.step(), ("serve", "b"))
        self.board.arrive("e")
        self.assertEqual(self.board.step(), ("serve", "e"))
        self.assertEqual(self.board.pending(), ["a", "c", "d"])
        served = [move for move in [self.board.step() for _ in range(13)] if move != ROW]
        self.assertEqual(served, [("serve", "c"), ("serve", "a"), ("serve", "d")])
        self.assertEqual(self.board.place()[:2], ("main", 0))

    def test_a_line_that_cannot_be_served_waits_on(self):
        self.board.step()
        self.board.step()
        self.board.arrive("a")
        self.board.arrive("b")
        self.assertEqual(self.board.step(1), ("row", 1))
        self.assertEqual(self.board.step(), ROW)
        self.assertEqual((self.board.mask, self.board.pending()), (1, ["a", "b"]))
        self.assertEqual(self.board.step(), ("serve", "b"))
        self.assertEqual(self.board.pending(), ["a"])

    def test_the_choice_of_a_row(self):
        self.assertEqual(self.board.step(3), ("row", 3))
        self.assertEqual(self.board.store, (3,))
        self.board.step()
        self.assertEqual(self.board.step(choice=1), ("row", 1))
        self.assertEqual(self.board.place()[1], 3)
        self.assertEqual(self.board.script(), [("row", 3), ROW, ("row", 1)])

    def test_the_choice_does_not_matter_where_a_line_is_served(self):
        self.board.arrive("a")
        self.assertEqual(self.board.step(-7), ("serve", "a"))
        self.board.arrive("c")
        self.assertEqual(self.board.step(99), ("serve", "c"))

    def test_arrive_refuses(self):
        self.board.arrive("a")
        before = state_of(self.board)
        for value in ["x", "main", "work", "A", *odd_values()]:
            with self.assertRaises(BadLine) as caught:
                self.board.arrive(value)
            self.assertIs(caught.exception.value, value)
            self.assertEqual(state_of(self.board), before)

    def test_step_refuses_what_is_no_integer_ahead_of_all_else(self):
        resting = Board(Program(1, 2, {"x": 0}, {"main": []}, {"t": (1, "main")}))
        serving = Board(board_program())
        serving.arrive("a")
        for board in (self.board, resting, serving):
            before = state_of(board)
            for value in ["0", 0.0, *odd_values()]:
                if type(value) is not int:
                    with self.assertRaises(BadNumber) as caught:
                        board.step(value)
                    self.assertIs(caught.exception.value, value)
                    self.assertEqual(state_of(board), before)

    def test_step_refuses_a_choice_that_the_row_has_not(self):
        for board, wrong in [(self.board, (-1, 4)), (Board(board_program()), (-1, 4, 10 ** 40))]:
            before = state_of(board)
            for choice in wrong:
                with self.assertRaises(BadNumber) as caught:
                    board.step(choice)
                self.assertEqual(caught.exception.value, choice)
                self.assertEqual(state_of(board), before)
        self.board.step()
        for wrong, right in [((1, -1), 0), ((2, -1), 1)] + [((1, -1), 0)] * 4:
            for choice in wrong:
                before = state_of(self.board)
                with self.assertRaises(BadNumber):
                    self.board.step(choice)
                self.assertEqual(state_of(self.board), before)
            self.board.step(right)
        self.assertEqual(self.board.place()[:2], ("main", 5))

    def test_a_choice_other_than_0_at_an_end(self):
        self.board.arrive("b")
        self.board.step()
        self.board.step()
        with self.assertRaises(BadNumber):
            self.board.step(1)
        self.assertEqual(self.board.step(), ROW)
        self.assertEqual(self.board.place()[:2], ("main", 0))

    def test_at_rest(self):
        board = Board(Program(2, 3, {"x": 0}, {"main": [("raise", 1)]}, {"t": (1, "main"), "u": (2, "main")}))
        board.step()
        board.arrive("t")
        before = state_of(board)
        for choice in (0, 1, -5):
            with self.assertRaises(AtRest):
                board.step(choice)
            self.assertEqual(state_of(board), before)
        board.arrive("u")
        self.assertEqual(board.step(), ("serve", "u"))
        self.assertEqual((board.step(), board.step()), (ROW, ROW))
        with self.assertRaises(AtRest):
            board.step()
        self.assertEqual((board.pending(), board.at_rest()), (["t"], True))

    def test_a_line_waits_at_rest_while_a_guard_keeps_it_out(self):
        while not self.board.at_rest():
            self.board.step()
        self.board.arrive("e")
        with self.assertRaises(AtRest):
            self.board.step()
        self.assertEqual(self.board.pending(), ["e"])

    def test_moves_by_a_call_or_by_play_change_neither(self):
        self.board.arrive("a")
        self.board.arrive("c")
        self.board(("serve", "a"))
        self.assertEqual((self.board.pending(), self.board.script()), (["a", "c"], []))
        self.board.play([("serve", "c"), ROW])
        self.assertEqual((self.board.pending(), self.board.script()), (["a", "c"], []))
        self.assertEqual(self.board.place(), ("work", 1, 0, (1,), 2, 2))
        self.board.step()
        self.assertEqual((self.board.pending(), self.board.script()), (["a", "c"], [ROW]))
        with self.assertRaises(BadMove):
            self.board(("serve", "a"))
        with self.assertRaises(BadScript):
            self.board.play([("serve", "c"), ROW, None])
        self.assertEqual((self.board.pending(), self.board.script()), (["a", "c"], [ROW]))
        self.assertEqual(self.board.step(), ("serve", "c"))
        self.assertEqual((self.board.pending(), self.board.script()), (["a"], [ROW, ("serve", "c")]))

    def test_copied_is_a_plain_machine(self):
        self.board.arrive("a")
        self.board.arrive("d")
        self.board.step()
        other = self.board.copied()
        self.assertIs(type(other), Machine)
        self.assertEqual((other.place(), other.frames()), (self.board.place(), self.board.frames()))
        other(ROW)
        self.assertEqual(self.board.place(), ("work", 0, 0, (0,), 1, 1))
        self.assertEqual(self.board.pending(), ["d"])

    def test_returned_lists_can_be_changed(self):
        self.board.arrive("a")
        self.board.arrive("c")
        self.board.step()
        self.board.pending().clear()
        self.board.script().append(None)
        self.board.script().clear()
        self.assertEqual((self.board.pending(), self.board.script()), (["a"], [("serve", "c")]))

    def test_boards_are_apart(self):
        other = Board(self.board.program)
        self.board.arrive("a")
        self.board.step()
        self.assertEqual((other.pending(), other.script(), other.place()[0]), ([], [], "main"))

    def test_the_script_is_one_that_a_machine_plays(self):
        arrivals = {0: "ac", 2: "b", 3: "e", 7: "aad", 8: "c", 15: "e", 22: "ab"}
        for moment in range(60):
            for line in arrivals.get(moment, ""):
                self.board.arrive(line)
            try:
                self.board.step(1 if moment % 3 == 0 else 0)
            except (AtRest, BadNumber):
                pass
            machine = played(self.board.program, self.board.script())
            self.assertEqual(machine.place(), self.board.place())
            self.assertEqual((machine.store, machine.mask), (self.board.store, self.board.mask))
            self.assertEqual(machine.frames(), self.board.frames())
        self.assertTrue(self.board.at_rest())


if __name__ == "__main__":
    unittest.main()
