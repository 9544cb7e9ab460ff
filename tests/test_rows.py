"""[4], [6], [7]: what each sort of row does, with its choices."""

import unittest

from maskedlevels.errors import BadMove
from maskedlevels.machine import Machine, played
from maskedlevels.programs import Program


def made(rows, start=None, levels=3, size=4, **more):
    """A program with these rows, cells c, d, and a line of each level that is served by no rows."""
    procedures = {"main": rows, "nothing": [], **more}
    lines = {"abc"[level - 1]: (level, "nothing") for level in range(1, levels + 1)}
    return Program(levels, size, start or {"c": 1, "d": 2}, procedures, lines)


def after(rows, many=None, choice=0, start=None, **more):
    """The place behind many rows of this program, all of them by default; the last one with the choice."""
    many = len(rows) if many is None else many
    script = [("row", 0)] * (many - 1) + [("row", choice)]
    return played(made(rows, start, **more), script).place()


class RowsTest(unittest.TestCase):
    def has_choices(self, rows, many, choices):
        """The row behind so many others has these choices and no other."""
        machine = played(made(rows), [("row", 0)] * many)
        self.assertEqual([move for move in machine.moves() if move[0] == "row"], [("row", n) for n in choices])
        for choice in range(-2, 7):
            copy = machine.copied()
            if choice in choices:
                copy(("row", choice))
            else:
                with self.assertRaises(BadMove):
                    copy(("row", choice))

    def test_set(self):
        for value in range(4):
            self.assertEqual(after([("set", "c", value)]), ("main", 1, 0, (value, 2), 0, 0))
            self.assertEqual(after([("set", "d", value)]), ("main", 1, 0, (1, value), 0, 0))

    def test_copy(self):
        self.assertEqual(after([("copy", "c", "d")]), ("main", 1, 0, (2, 2), 0, 0))
        self.assertEqual(after([("copy", "d", "c")]), ("main", 1, 0, (1, 1), 0, 0))
        self.assertEqual(after([("copy", "d", "d")]), ("main", 1, 0, (1, 2), 0, 0))

    def test_add_goes_round(self):
        for value in range(4):
            for more in range(4):
                place = after([("add", "c", more)], start={"c": value, "d": 3})
                self.assertEqual(place, ("main", 1, 0, ((value + more) % 4, 3), 0, 0))

    def test_any(self):
        for value in range(4):
            self.assertEqual(after([("any", "d")], choice=value), ("main", 1, 0, (1, value), 0, 0))
        self.has_choices([("any", "d")], 0, [0, 1, 2, 3])

    def test_look(self):
        self.assertEqual(after([("look", "c")]), ("main", 1, 0, (1, 2), 0, 0))

    def test_if(self):
        rows = [("if", "d", 2, 3), ("set", "c", 0), ("set", "c", 3)]
        self.assertEqual(after(rows, 1), ("main", 3, 0, (1, 2), 0, 0))
        for value in (0, 1, 3):
            rows = [("if", "d", value, 3), ("set", "c", 0), ("set", "c", 3)]
            self.assertEqual(after(rows, 1), ("main", 1, 0, (1, 2), 0, 0))
        self.assertEqual(after([("if", "c", 1, 0)], 5), ("main", 0, 0, (1, 2), 0, 0))
        self.has_choices([("if", "c", 1, 0)], 0, [0])

    def test_go(self):
        rows = [("go", 2), ("set", "c", 0), ("go", 0)]
        self.assertEqual(after(rows, 1), ("main", 2, 0, (1, 2), 0, 0))
        self.assertEqual(after(rows, 2), ("main", 0, 0, (1, 2), 0, 0))
        self.assertEqual(after([("go", 3), ("keep",), ("keep",)], 1)[1], 3)

    def test_either(self):
        rows = [("either", 2), ("keep",)]
        self.assertEqual(after(rows, 1, 1), ("main", 2, 0, (1, 2), 0, 0))
        self.assertEqual(after(rows, 1, 0), ("main", 1, 0, (1, 2), 0, 0))
        self.has_choices(rows, 0, [0, 1])
        self.has_choices([("either", 1)], 0, [0, 1])
        self.assertEqual(played(made([("either", 0)]), [("row", 1)] * 3).place()[1], 0)

    def test_open_and_close(self):
        rows = [("open", "s"), ("open", "s"), ("close", "s"), ("close", "s"), ("open", "r")]
        sections = [played(made(rows), [("row", 0)] * many).store for many in range(6)]
        self.assertEqual(sections, [(1, 2, 0, 0), (1, 2, 0, 1), (1, 2, 0, 1), (1, 2, 0, 0), (1, 2, 0, 0), (1, 2, 1, 0)])

    def test_raise_never_lowers(self):
        for first in range(4):
            for second in range(4):
                mask = after([("raise", first), ("raise", second)])[4]
                self.assertEqual(mask, max(first, second))

    def test_mask(self):
        for first in range(4):
            for second in range(4):
                self.assertEqual(after([("mask", first), ("mask", second)]), ("main", 2, 0, (1, 2), second, 0))

    def test_save(self):
        for level in range(4):
            self.assertEqual(after([("raise", level), ("save", "d")]), ("main", 2, 0, (1, level), level, 0))

    def test_load(self):
        for value in range(4):
            self.assertEqual(after([("raise", 2), ("load", "c")], start={"c": value, "d": 2})[4], value)

    def test_load_gets_k_if_the_value_is_greater(self):
        program = Program(2, 6, {"c": 0}, {"main": [("any", "c"), ("load", "c")]}, {})
        masks = [played(program, [("row", value), ("row", 0)]).mask for value in range(6)]
        self.assertEqual(masks, [0, 1, 2, 2, 2, 2])

    def test_keep_and_give(self):
        rows = [("raise", 2), ("keep",), ("mask", 0), ("give",), ("raise", 3), ("give",)]
        told = [played(made(rows), [("row", 0)] * many).place()[2:5:2] for many in range(7)]
        self.assertEqual(told, [(0, 0), (0, 2), (2, 2), (2, 0), (2, 2), (2, 3), (2, 2)])

    def test_give_without_keep_gives_0(self):
        self.assertEqual(after([("raise", 3), ("give",)]), ("main", 2, 0, (1, 2), 0, 0))

    def test_rows_without_choices_have_0_alone(self):
        for row in [("set", "c", 1), ("copy", "c", "d"), ("add", "c", 1), ("look", "c"), ("if", "c", 0, 0), ("go", 1),
                    ("call", "nothing"), ("raise", 1), ("mask", 1), ("save", "c"), ("load", "c"), ("keep",), ("give",),
                    ("open", "s"), ("close", "s")]:
            self.has_choices([row], 0, [0])

    def test_at_the_floor_of_a_line(self):
        """Nothing in an activation lets the mask get less than its floor."""
        for row, mask in [(("mask", 0), 2), (("mask", 1), 2), (("mask", 3), 3), (("raise", 0), 2), (("raise", 3), 3),
                          (("load", "c"), 2), (("load", "d"), 3), (("give",), 2)]:
            program = Program(3, 4, {"c": 1, "d": 3}, {"main": [], "work": [row]}, {"t": (2, "work")})
            machine = played(program, [("serve", "t"), ("row", 0)])
            self.assertEqual(machine.place(), ("work", 1, 0, (1, 3), mask, 2), row)

    def test_give_with_a_kept_level_above_the_floor(self):
        work = [("mask", 3), ("keep",), ("mask", 0), ("give",)]
        program = Program(3, 4, {"c": 1}, {"main": [], "work": work}, {"t": (2, "work")})
        machine = played(program, [("serve", "t")])
        masks = []
        for _ in work:
            machine(("row", 0))
            masks.append(machine.place()[2:5:2])
        self.assertEqual(masks, [(0, 3), (3, 3), (3, 2), (3, 3)])


class CallsTest(unittest.TestCase):
    def test_a_call_and_its_return(self):
        rows = [("raise", 1), ("call", "sub"), ("set", "d", 0)]
        machine = Machine(made(rows, sub=[("set", "c", 3), ("mask", 2)]))
        frames = []
        while not machine.at_rest():
            machine(("row", 0))
            frames.append((machine.frames(), machine.store, machine.mask))
        self.assertEqual(frames, [
            ([("main", 1, 0)], (1, 2), 1),
            ([("main", 2, 0), ("sub", 0, 0)], (1, 2), 1),
            ([("main", 2, 0), ("sub", 1, 0)], (3, 2), 1),
            ([("main", 2, 0), ("sub", 2, 0)], (3, 2), 2),
            ([("main", 2, 0)], (3, 2), 2),
            ([("main", 3, 0)], (3, 0), 2),
        ])

    def test_a_call_of_no_rows(self):
        machine = Machine(made([("call", "nothing")]))
        machine(("row", 0))
        self.assertEqual(machine.frames(), [("main", 1, 0), ("nothing", 0, 0)])
        self.assertEqual([move for move in machine.moves() if move[0] == "row"], [("row", 0)])
        with self.assertRaises(BadMove):
            machine(("row", 1))
        machine(("row", 0))
        self.assertEqual(machine.frames(), [("main", 1, 0)])

    def test_each_frame_keeps_its_own_level(self):
        rows = [("raise", 1), ("keep",), ("call", "sub"), ("call", "sub"), ("give",)]
        machine = Machine(made(rows, sub=[("mask", 3), ("keep",)]))
        machine.play([("row", 0)] * 5)
        self.assertEqual(machine.frames(), [("main", 3, 1), ("sub", 2, 3)])
        machine.play([("row", 0)] * 2)
        self.assertEqual(machine.frames(), [("main", 4, 1), ("sub", 0, 0)])
        machine.play([("row", 0)] * 3)
        self.assertEqual((machine.frames(), machine.mask), ([("main", 4, 1)], 3))
        machine(("row", 0))
        self.assertEqual(machine.place(), ("main", 5, 1, (1, 2), 1, 0))

    def test_calls_within_calls(self):
        machine = Machine(made([("call", "one"), ("keep",)], one=[("call", "two")], two=[("keep",)]))
        machine.play([("row", 0)] * 2)
        self.assertEqual(machine.frames(), [("main", 1, 0), ("one", 1, 0), ("two", 0, 0)])
        self.assertFalse(machine.at_rest())
        machine.play([("row", 0)] * 3)
        self.assertEqual(machine.frames(), [("main", 1, 0)])

    def test_a_called_procedure_goes_on_with_the_floor_of_the_activation(self):
        procedures = {"main": [("keep",)], "work": [("call", "sub")], "sub": [("mask", 0)]}
        program = Program(2, 3, {"c": 0}, procedures, {"t": (1, "work")})
        machine = played(program, [("serve", "t"), ("row", 0), ("row", 0)])
        self.assertEqual(machine.place(), ("sub", 1, 0, (0,), 1, 1))

    def test_a_call_as_the_last_row_comes_to_rest_behind_its_return(self):
        machine = Machine(made([("call", "nothing")]))
        rests = [machine.at_rest()]
        for _ in range(2):
            machine(("row", 0))
            rests.append(machine.at_rest())
        self.assertEqual(rests, [False, False, True])


if __name__ == "__main__":
    unittest.main()
