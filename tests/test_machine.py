"""[6], [7], [8]: machines, what they tell, and the moves that they make."""

import unittest

from maskedlevels.errors import BadArgument, BadMove, BadScript, LevelError
from maskedlevels.machine import Board, Machine, is_move, places_of, played
from maskedlevels.programs import Program
from tests.values import odd_values, small_program

ROW = ("row", 0)


def nested_program():
    """Lines of three levels that change the mask and the store within each other."""
    procedures = {
        "main": [("set", "x", 1), ("mask", 1), ("mask", 0)],
        "one": [("set", "x", 2), ("mask", 2), ("call", "sub")],
        "two": [("add", "x", 1), ("raise", 3)],
        "three": [("open", "s")],
        "sub": [("keep",)],
    }
    lines = {"p": (1, "one"), "q": (2, "two"), "r": (3, "three")}
    return Program(3, 4, {"x": 0}, procedures, lines, guards={("main", 1): 2, ("main", 3): 1, ("sub", 1): 3})


def state_of(machine):
    """All that a machine tells of where it stands."""
    return (machine.place(), machine.frames(), machine.at_rest(), machine.store, machine.mask, machine.moves())


class MovesTest(unittest.TestCase):
    def test_values_with_the_form_of_a_move(self):
        for move in [("serve", "tick"), ("serve", "abcdefgh"), ("row", 0), ("row", 5), ("row", -1), ("row", 10 ** 50)]:
            self.assertIs(is_move(move), True, move)
        self.assertIs(is_move(value=("row", 0)), True)

    def test_other_values(self):
        wrong = [("serve",), ("row",), ("row", 0, 0), ("serve", 0), ("row", "tick"), ("Row", 0), ("go", 0),
                 ["row", 0], "row:0", ("serve", "Tick"), ("serve", ""), (0, "row"), {"row": 0}]
        for value in wrong + odd_values():
            self.assertIs(is_move(value), False)
        for odd in odd_values():
            self.assertIs(is_move(("serve", odd)), False)
            self.assertIs(is_move((odd, 0)), False)
            self.assertIs(is_move((odd, "tick")), False)
            self.assertIs(is_move(("row", odd)), type(odd) is int)


class MachineTest(unittest.TestCase):
    def test_at_its_start(self):
        program = nested_program()
        machine = Machine(program)
        self.assertIs(machine.program, program)
        self.assertEqual((machine.store, machine.mask), ((0, 0), 0))
        self.assertEqual(machine.place(), ("main", 0, 0, (0, 0), 0, 0))
        self.assertEqual(machine.frames(), [("main", 0, 0)])
        self.assertIs(machine.at_rest(), False)
        self.assertEqual(machine.moves(), [("serve", "r"), ("serve", "q"), ("serve", "p"), ROW])
        self.assertEqual(Machine(program=program).program, program)

    def test_another_main_procedure(self):
        self.assertEqual(Machine(small_program(main="sub")).place(), ("sub", 0, 0, (0, 1, 0), 0, 0))

    def test_properties_cannot_be_set(self):
        machine = Machine(nested_program())
        for name in ("program", "store", "mask"):
            with self.assertRaises(AttributeError):
                setattr(machine, name, 0)

    def test_what_is_no_program(self):
        for value in odd_values():
            for kind in (Machine, Board):
                with self.assertRaises(BadArgument) as caught:
                    kind(value)
                self.assertIs(caught.exception.value, value)
            with self.assertRaises(BadArgument) as caught:
                played(value, None)
            self.assertIs(caught.exception.value, value)
            run = places_of(value, None)
            with self.assertRaises(BadArgument) as caught:
                next(run)
            self.assertIs(caught.exception.value, value)

    def test_a_service_begins_an_activation_and_its_end_returns(self):
        machine = played(nested_program(), [ROW, ROW])
        self.assertEqual(machine.place(), ("main", 2, 0, (1, 0), 1, 0))
        machine(("serve", "q"))
        self.assertEqual(machine.place(), ("two", 0, 0, (1, 0), 2, 2))
        self.assertEqual(machine.frames(), [("main", 2, 0), ("two", 0, 0)])
        machine.play([ROW, ROW])
        self.assertEqual(machine.place(), ("two", 2, 0, (2, 0), 3, 2))
        machine(move=ROW)
        self.assertEqual(machine.place(), ("main", 2, 0, (2, 0), 1, 0))
        self.assertEqual(machine.frames(), [("main", 2, 0)])

    def test_lines_served_within_lines(self):
        machine = Machine(nested_program())
        machine.play([("serve", "p"), ROW, ("serve", "q"), ("serve", "r"), ROW])
        self.assertEqual(machine.frames(), [("main", 0, 0), ("one", 1, 0), ("two", 0, 0), ("three", 1, 0)])
        self.assertEqual((machine.store, machine.mask), ((2, 1), 3))
        self.assertEqual(machine.moves(), [ROW])
        masks = []
        while len(machine.frames()) > 1:
            machine(ROW)
            masks.append((machine.place()[0], machine.mask, machine.place()[5]))
        self.assertEqual(masks, [
            ("two", 2, 2), ("two", 2, 2), ("two", 3, 2), ("one", 1, 1), ("one", 2, 1), ("sub", 2, 1), ("sub", 2, 1),
            ("one", 2, 1), ("main", 0, 0),
        ])
        self.assertEqual(machine.store, (3, 1))

    def test_a_line_is_not_served_within_itself(self):
        machine = Machine(nested_program())
        for line, others in [("p", ["r", "q"]), ("q", ["r"]), ("r", [])]:
            machine(("serve", line))
            self.assertEqual(machine.moves(), [("serve", other) for other in others] + [ROW])
            with self.assertRaises(BadMove):
                machine(("serve", line))

    def test_lines_again_and_again(self):
        program = Program(1, 3, {"x": 0}, {"main": [], "more": [("add", "x", 1)]}, {"t": (1, "more")})
        machine = Machine(program)
        for many in range(1, 8):
            machine.play([("serve", "t"), ROW, ROW])
            self.assertEqual((machine.store, machine.at_rest()), ((many % 3,), True))

    def test_guards_and_masks_keep_lines_out(self):
        machine = Machine(nested_program())
        lines = []
        for _ in range(4):
            lines.append([line for kind, line in machine.moves() if kind == "serve"])
            for line in {"p", "q", "r"} - set(lines[-1]):
                with self.assertRaises(BadMove):
                    machine(("serve", line))
            if not machine.at_rest():
                machine(ROW)
        self.assertEqual(lines, [["r", "q", "p"], ["r"], ["r", "q"], ["r", "q"]])

    def test_a_guard_at_the_end_of_a_called_procedure(self):
        machine = played(nested_program(), [("serve", "p"), ROW, ROW, ROW])
        self.assertEqual(machine.moves(), [("serve", "r"), ROW])
        machine(ROW)
        self.assertEqual((machine.place()[:2], machine.moves()), (("sub", 1), [ROW]))

    def test_at_rest(self):
        machine = played(nested_program(), [ROW, ROW, ROW])
        self.assertIs(machine.at_rest(), True)
        self.assertEqual(machine.moves(), [("serve", "r"), ("serve", "q")])
        for choice in (0, 1):
            with self.assertRaises(BadMove):
                machine(("row", choice))
        machine(("serve", "r"))
        self.assertIs(machine.at_rest(), False)
        machine.play([ROW, ROW])
        self.assertIs(machine.at_rest(), True)
        self.assertEqual(machine.place(), ("main", 3, 0, (1, 1), 0, 0))

    def test_a_program_without_rows_and_lines(self):
        machine = Machine(Program(1, 2, {"x": 0}, {"main": []}, {}))
        self.assertEqual((machine.at_rest(), machine.moves()), (True, []))
        with self.assertRaises(BadMove):
            machine(ROW)

    def test_main_as_the_procedure_of_a_line_is_not_at_rest_at_its_end(self):
        program = Program(1, 2, {"x": 0}, {"main": []}, {"t": (1, "main")})
        machine = played(program, [("serve", "t")])
        self.assertEqual((machine.at_rest(), machine.moves()), (False, [ROW]))
        machine(ROW)
        self.assertEqual((machine.at_rest(), machine.place()), (True, ("main", 0, 0, (0,), 0, 0)))

    def test_the_mask_of_main_is_there_again_at_rest(self):
        procedures = {"main": [("raise", 1)], "work": [("mask", 3)]}
        machine = played(Program(3, 4, {"x": 0}, procedures, {"t": (2, "work")}), [ROW, ("serve", "t"), ROW])
        self.assertEqual((machine.mask, machine.at_rest()), (3, False))
        machine(ROW)
        self.assertEqual((machine.mask, machine.at_rest()), (1, True))

    def test_a_move_that_cannot_be_made_changes_nothing(self):
        machine = played(nested_program(), [("serve", "p")])
        before = state_of(machine)
        wrong = [("serve", "p"), ("serve", "other"), ("serve", "one"), ("row", 1), ("row", -1), ("row", True),
                 ("row", 0.0), ["row", 0], "row", ("row",)]
        for move in wrong + odd_values():
            with self.assertRaises(BadMove) as caught:
                machine(move)
            self.assertIs(caught.exception.value, move)
            self.assertEqual(state_of(machine), before)

    def test_returned_lists_can_be_changed(self):
        machine = played(nested_program(), [("serve", "p")])
        before = state_of(machine)
        machine.moves().clear()
        machine.frames().clear()
        machine.frames().append(("main", 0, 0))
        self.assertEqual(state_of(machine), before)

    def test_copied(self):
        machine = played(nested_program(), [("serve", "p"), ROW])
        other = machine.copied()
        self.assertIs(type(other), Machine)
        self.assertEqual(state_of(other), state_of(machine))
        self.assertEqual(other.program, machine.program)
        before = state_of(machine)
        other(("serve", "q"))
        self.assertEqual(state_of(machine), before)
        machine(ROW)
        self.assertEqual(other.place(), ("two", 0, 0, (2, 0), 2, 2))

    def test_calls_return_nothing(self):
        machine = Machine(nested_program())
        self.assertIsNone(machine(ROW))
        self.assertIsNone(machine.play([ROW]))

    def test_equal_to_no_value_of_another_class(self):
        machine = Machine(nested_program())
        for value in (None, 0, nested_program(), "x", (), [machine]):
            self.assertIs(machine == value, False)


class ScriptsTest(unittest.TestCase):
    def test_play_goes_on_from_where_it_stands(self):
        machine = Machine(nested_program())
        machine.play([ROW])
        machine.play(script=[ROW, ("serve", "q")])
        self.assertEqual(machine.place(), ("two", 0, 0, (1, 0), 2, 2))
        before = state_of(machine)
        machine.play([])
        self.assertEqual(state_of(machine), before)

    def test_play_makes_all_moves_or_none(self):
        for kind in (Machine, Board):
            machine = kind(nested_program())
            machine(ROW)
            before = state_of(machine)
            for at in range(3):
                for wrong in [("serve", "p"), ("row", 1), ("serve", "other"), *odd_values()]:
                    script = [ROW] * at + [wrong, ROW, None]
                    with self.assertRaises(BadScript) as caught:
                        machine.play(script)
                    self.assertEqual(caught.exception.at, at)
                    self.assertEqual(state_of(machine), before)

    def test_play_refuses_what_is_no_list_with_0(self):
        for value in [(), (ROW,), "row", {}, *odd_values()]:
            if type(value) is not list:
                with self.assertRaises(BadScript) as caught:
                    played(nested_program(), [ROW]).play(value)
                self.assertEqual(caught.exception.at, 0)
                with self.assertRaises(BadScript) as caught:
                    played(nested_program(), value)
                self.assertEqual(caught.exception.at, 0)

    def test_play_leaves_the_script_as_it_is(self):
        script = [ROW, ROW, ROW]
        machine = played(nested_program(), script)
        with self.assertRaises(BadScript):
            machine.play(script)
        self.assertEqual(script, [ROW, ROW, ROW])
        script.clear()
        self.assertEqual(machine.place()[1], 3)

    def test_played(self):
        machine = played(program=nested_program(), script=[("serve", "r"), ROW])
        self.assertIs(type(machine), Machine)
        self.assertEqual(machine.place(), ("three", 1, 0, (0, 1), 3, 3))
        self.assertEqual(played(nested_program(), []).place(), Machine(nested_program()).place())
        for script, at in [([ROW, ROW, ROW, ROW], 3), ([("serve", "x")], 0), ([ROW, ("serve", "q")], 1), ([0], 0)]:
            with self.assertRaises(BadScript) as caught:
                played(nested_program(), script)
            self.assertEqual(caught.exception.at, at)

    def test_the_program_goes_ahead_of_the_script(self):
        with self.assertRaises(BadArgument):
            played(None, [0])
        with self.assertRaises(BadArgument):
            list(places_of(None, [0]))

    def test_places_of(self):
        script = [ROW, ("serve", "r"), ROW, ROW]
        wanted = [
            ("main", 0, 0, (0, 0), 0, 0), ("main", 1, 0, (1, 0), 0, 0), ("three", 0, 0, (1, 0), 3, 3),
            ("three", 1, 0, (1, 1), 3, 3), ("main", 1, 0, (1, 1), 0, 0),
        ]
        self.assertEqual(list(places_of(nested_program(), script)), wanted)
        self.assertEqual(list(places_of(program=nested_program(), script=[])), wanted[:1])

    def test_places_of_raises_when_it_comes_there(self):
        for wrong in [("serve", "p"), ("row", 1), *odd_values()]:
            run = places_of(nested_program(), [ROW, wrong])
            self.assertEqual([next(run)[1], next(run)[1]], [0, 1])
            with self.assertRaises(BadScript) as caught:
                next(run)
            self.assertEqual(caught.exception.at, 1)

    def test_places_of_looks_at_what_is_given_when_the_first_is_asked_for(self):
        for value in odd_values():
            if type(value) is not list:
                run = places_of(nested_program(), value)
                with self.assertRaises(BadScript) as caught:
                    next(run)
                self.assertEqual(caught.exception.at, 0)
        script = []
        run = places_of(nested_program(), script)
        script.append(ROW)
        self.assertEqual(next(run)[1], 0)
        script[0] = None
        script.append(None)
        self.assertEqual([place[1] for place in run], [1])

    def test_all_errors_are_level_errors(self):
        with self.assertRaises(LevelError):
            Machine(nested_program())(None)


if __name__ == "__main__":
    unittest.main()
