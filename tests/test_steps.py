"""[5], [7]: stores, values in them, and which lines can be served."""

import unittest

from maskedlevels.errors import BadArgument, BadCell, BadMask, BadPoint, BadProcedure, BadStore
from maskedlevels.programs import Program
from maskedlevels.steps import can_serve, is_store, value_in
from tests.values import odd_values, small_program


class StoresTest(unittest.TestCase):
    def setUp(self):
        rows = [("open", "t"), ("close", "b")]
        self.program = Program(1, 3, {"m": 0, "c": 1}, {"main": rows}, {})

    def test_stores(self):
        for c in range(3):
            for m in range(3):
                for sections in [(0, 0), (0, 1), (1, 0), (1, 1)]:
                    self.assertIs(is_store(self.program, (c, m) + sections), True)
        self.assertIs(is_store(program=self.program, value=(0, 0, 0, 0)), True)
        self.assertIs(is_store(Program(1, 2, {"x": 0}, {"main": []}, {}), (1,)), True)

    def test_what_is_no_store(self):
        wrong = [(0, 0, 0), (0, 0, 0, 0, 0), (3, 0, 0, 0), (0, 3, 0, 0), (0, 0, 2, 0), (0, 0, 0, 2), (-1, 0, 0, 0),
                 (0, 0, 0, -1), [0, 0, 0, 0], "0000", b"0000", range(4)]
        for value in wrong + odd_values():
            self.assertIs(is_store(self.program, value), False)
        for odd in odd_values():
            for at in range(4):
                value = (0,) * at + (odd,) + (0,) * (3 - at)
                self.assertIs(is_store(self.program, value), False)

    def test_is_store_refuses_what_is_no_program(self):
        for value in odd_values():
            with self.assertRaises(BadArgument) as caught:
                is_store(value, None)
            self.assertIs(caught.exception.value, value)

    def test_values(self):
        store = (2, 1, 0, 1)
        told = {name: value_in(self.program, store, name) for name in ("c", "m", "b", "t")}
        self.assertEqual(told, {"c": 2, "m": 1, "b": 0, "t": 1})
        self.assertEqual(value_in(program=self.program, store=store, name="t"), 1)

    def test_value_in_refuses_in_its_order(self):
        for value in odd_values():
            with self.assertRaises(BadArgument) as caught:
                value_in(value, None, None)
            self.assertIs(caught.exception.value, value)
            with self.assertRaises(BadStore) as caught:
                value_in(self.program, value, None)
            self.assertIs(caught.exception.value, value)
            with self.assertRaises(BadCell) as caught:
                value_in(self.program, (0, 0, 0, 0), value)
            self.assertIs(caught.exception.value, value)
        for name in ("x", "main", "C", 0):
            with self.assertRaises(BadCell):
                value_in(self.program, (0, 0, 0, 0), name)
        with self.assertRaises(BadStore):
            value_in(self.program, (3, 0, 0, 0), "c")


class CanServeTest(unittest.TestCase):
    def setUp(self):
        lines = {"d": (1, "sub"), "a": (3, "main"), "c": (1, "sub"), "b": (3, "sub"), "z": (2, "sub"), "e": (4, "sub")}
        guards = {("main", 1): 1, ("main", 2): 3, ("sub", 0): 4}
        self.program = Program(4, 5, {"x": 0}, {"main": [("keep",), ("give",)], "sub": []}, lines, guards=guards)

    def test_the_highest_level_first_then_ascending(self):
        self.assertEqual(can_serve(self.program, "main", 0, 0), ["e", "a", "b", "z", "c", "d"])
        self.assertEqual(can_serve(program=self.program, procedure="main", point=0, mask=0)[:2], ["e", "a"])

    def test_each_mask_with_and_without_a_guard(self):
        order = [("e", 4), ("a", 3), ("b", 3), ("z", 2), ("c", 1), ("d", 1)]
        for procedure, point, guard in [("main", 0, 0), ("main", 1, 1), ("main", 2, 3), ("sub", 0, 4)]:
            for mask in range(5):
                wanted = [line for line, level in order if level > mask and level > guard]
                self.assertEqual(can_serve(self.program, procedure, point, mask), wanted)

    def test_at_ends(self):
        self.assertEqual(can_serve(self.program, "main", 2, 0), ["e"])
        self.assertEqual(can_serve(self.program, "main", 2, 4), [])
        program = small_program()
        self.assertEqual(can_serve(program, "main", 4, 0), ["alarm", "ring"])
        self.assertEqual(can_serve(program, "sub", 1, 0), ["alarm", "ring", "tick"])
        self.assertEqual(can_serve(program, "sub", 1, 1), ["alarm", "ring"])
        self.assertEqual(can_serve(program, "bell", 0, 2), [])

    def test_the_list_can_be_changed(self):
        can_serve(self.program, "main", 0, 0).clear()
        self.assertEqual(len(can_serve(self.program, "main", 0, 0)), 6)
        self.assertEqual(len(self.program.lines()), 6)

    def test_what_it_refuses_in_its_order(self):
        for value in odd_values():
            with self.assertRaises(BadArgument) as caught:
                can_serve(value, None, None, None)
            self.assertIs(caught.exception.value, value)
            with self.assertRaises(BadProcedure) as caught:
                can_serve(self.program, value, None, None)
            self.assertIs(caught.exception.value, value)
            with self.assertRaises(BadPoint) as caught:
                can_serve(self.program, "main", value, None)
            self.assertIs(caught.exception.value, value)
            with self.assertRaises(BadMask) as caught:
                can_serve(self.program, "main", 0, value)
            self.assertIs(caught.exception.value, value)

    def test_bounds_of_points_and_masks(self):
        for point in (-1, 3):
            with self.assertRaises(BadPoint):
                can_serve(self.program, "main", point, 0)
        with self.assertRaises(BadPoint):
            can_serve(self.program, "sub", 1, 9)
        for mask in (-1, 5):
            with self.assertRaises(BadMask):
                can_serve(self.program, "main", 0, mask)
        with self.assertRaises(BadMask):
            can_serve(small_program(), "main", 0, 3)


if __name__ == "__main__":
    unittest.main()
