"""[11]: what can be come to, held against a player that goes through all moves."""

import random
import unittest

from maskedlevels.errors import BadArgument, BadPoint, BadProcedure, BadSection
from maskedlevels.machine import played
from maskedlevels.programs import Program
from maskedlevels.reached import can_come, masks_at, meetings, places, script_to, seen_at
from tests.values import odd_values, small_program
from tests.walks import any_place, in_order, places_in, walked_programs

PROGRAMS = 200


def bent_places(program, place):
    """Values that are a place of the program but for one part."""
    procedure, point, kept, store, mask, floor = place
    top = program.levels
    wrong = [
        ("other", point, kept, store, mask, floor), (procedure, len(program[procedure]) + 1, kept, store, mask, floor),
        (procedure, -1, kept, store, mask, floor), (procedure, point, top + 1, store, mask, floor),
        (procedure, point, -1, store, mask, floor), (procedure, point, kept, store + (0,), mask, floor),
        (procedure, point, kept, store[1:], mask, floor), (procedure, point, kept, list(store), mask, floor),
        (procedure, point, kept, (program.size,) + store[1:], mask, floor),
        (procedure, point, kept, store, top + 1, floor), (procedure, point, kept, store, 0, 1),
        (procedure, point, kept, store, top, top + 1), (procedure, point, kept, store, mask, -1),
        place + (0,), place[:5], list(place), (),
    ]
    for odd in odd_values():
        wrong.extend(place[:at] + (odd,) + place[at + 1:] for at in range(6))
    return wrong


class WalkedTest(unittest.TestCase):
    """Each answer for many programs, against all states that their moves lead to."""

    @classmethod
    def setUpClass(cls):
        cls.programs = [(program, places_in(entries)) for program, entries in walked_programs(PROGRAMS)]

    def test_there_are_enough(self):
        self.assertGreater(len(self.programs), PROGRAMS * 9 // 10)
        self.assertGreater(sum(len(found) for _, found in self.programs), 20 * PROGRAMS)

    def test_places(self):
        for program, found in self.programs:
            self.assertEqual(places(program), in_order(found))

    def test_can_come(self):
        for seed, (program, found) in enumerate(self.programs):
            draw = random.Random(seed)
            values = draw.sample(sorted(found), min(5, len(found))) + [any_place(draw, program) for _ in range(5)]
            for value in values:
                self.assertIs(can_come(program, value), value in found)

    def test_seen_at(self):
        looks = 0
        for program, found in self.programs:
            for procedure in program.procedures():
                for point, row in enumerate(program[procedure]):
                    if row[0] == "look":
                        seat = program.cells().index(row[1])
                        wanted = sorted({place[3][seat] for place in found if place[:2] == (procedure, point)})
                        self.assertEqual(seen_at(program, procedure, point), wanted)
                        looks += len(wanted) > 1
        self.assertGreater(looks, 10)

    def test_meetings(self):
        met = 0
        for program, found in self.programs:
            for section in program.sections():
                seat = len(program.cells()) + program.sections().index(section)
                wanted = []
                for place in found:
                    rows = program[place[0]] + [None]
                    if rows[place[1]] == ("open", section) and place[3][seat] == 1:
                        wanted.append(place)
                self.assertEqual(meetings(program, section), in_order(wanted))
                met += len(wanted)
        self.assertGreater(met, 50)

    def test_masks_at(self):
        for program, found in self.programs:
            for procedure in program.procedures():
                for point in range(len(program[procedure]) + 1):
                    wanted = sorted({place[4] for place in found if place[:2] == (procedure, point)})
                    self.assertEqual(masks_at(program, procedure, point), wanted)

    def test_script_to(self):
        for seed, (program, found) in enumerate(self.programs):
            draw = random.Random(seed)
            for place in draw.sample(sorted(found), min(12, len(found))):
                script = script_to(program, place)
                self.assertIs(type(script), list)
                self.assertEqual(len(script), found[place])
                self.assertEqual(played(program, script).place(), place)
            for place in [any_place(draw, program) for _ in range(3)]:
                self.assertEqual(script_to(program, place) is None, place not in found)


class ReachedTest(unittest.TestCase):
    def test_a_program_of_nothing(self):
        program = Program(1, 2, {"x": 0}, {"main": []}, {})
        self.assertEqual(places(program), [("main", 0, 0, (0,), 0, 0)])
        self.assertEqual(script_to(program, ("main", 0, 0, (0,), 0, 0)), [])
        self.assertIsNone(script_to(program, ("main", 0, 0, (1,), 0, 0)))
        self.assertEqual(masks_at(program, "main", 0), [0])

    def test_what_no_run_comes_to(self):
        rows = {"main": [("go", 2), ("look", "x"), ("look", "x")], "never": [("look", "x"), ("open", "s")]}
        program = Program(2, 2, {"x": 0}, rows, {})
        self.assertEqual([seen_at(program, "main", point) for point in (1, 2)], [[], [0]])
        self.assertEqual(seen_at(program, "never", 0), [])
        self.assertEqual(masks_at(program, "never", 2), [])
        self.assertEqual(masks_at(program, "main", 1), [])
        self.assertEqual(meetings(program, "s"), [])
        self.assertEqual(len(places(program)), 3)

    def test_guards_between_rows_and_at_ends(self):
        rows = {"main": [("call", "sub"), ("set", "y", 0), ("set", "y", 1), ("look", "x")], "sub": [], "put": [("set", "x", 1)]}
        guards = {("main", point): 1 for point in range(4)}
        guards[("sub", 0)] = 1
        free = Program(1, 2, {"x": 0, "y": 0}, rows, {"t": (1, "put")})
        self.assertEqual(seen_at(free.with_guards(guards), "main", 3), [0])
        self.assertEqual(seen_at(free, "main", 3), [0, 1])
        for spot in guards:
            others = {other: 1 for other in guards if other != spot}
            self.assertEqual(seen_at(free.with_guards(others), "main", 3), [0, 1], spot)
        program = free.with_guards(guards)
        self.assertIs(can_come(program, ("main", 4, 0, (1, 1), 0, 0)), True)
        self.assertIs(can_come(program, ("main", 3, 0, (1, 1), 0, 0)), False)
        self.assertEqual(script_to(program, ("put", 1, 0, (1, 1), 1, 1)), [("row", 0)] * 5 + [("serve", "t"), ("row", 0)])
        shut = program.with_guards({**guards, ("main", 4): 1})
        self.assertIs(can_come(shut, ("main", 4, 0, (1, 1), 0, 0)), False)
        self.assertEqual(masks_at(shut, "put", 0), [])

    def test_a_row_is_never_parted_by_its_guard(self):
        rows = {"main": [("set", "x", 1), ("set", "x", 2)], "put": [("copy", "y", "x")]}
        program = Program(1, 3, {"x": 0, "y": 0}, rows, {"t": (1, "put")}, guards={("main", 1): 1})
        found = {place[3] for place in places(program) if place[:2] == ("main", 2)}
        self.assertEqual(found, {(2, 0), (2, 2)})

    def test_a_higher_line_goes_through_a_lower_guard(self):
        rows = {"main": [("look", "x")], "one": [("set", "x", 1)], "two": [("set", "x", 2)]}
        for guard, wanted in [(1, [0, 2]), (2, [0])]:
            guards = {("main", 0): guard}
            program = Program(2, 3, {"x": 0}, rows, {"a": (1, "one"), "b": (2, "two")}, guards=guards)
            self.assertEqual(seen_at(program, "main", 0), wanted)

    def test_sections_that_meet_within_lines(self):
        half = [("open", "s"), ("set", "x", 1), ("close", "s")]
        program = Program(2, 2, {"x": 0}, {"main": half, "low": half, "high": half}, {"a": (1, "low"), "b": (2, "high")})
        met = meetings(program, "s")
        self.assertEqual({place[0] for place in met}, {"low", "high"})
        self.assertIn(("high", 0, 0, (0, 1), 2, 2), met)
        masked = {"main": [("raise", 1)] + half + [("mask", 0)], "low": [("raise", 2)] + half, "high": half}
        program = Program(2, 2, {"x": 0}, masked, {"a": (1, "low"), "b": (2, "high")})
        self.assertEqual({place[0] for place in meetings(program, "s")}, {"high"})
        masked["main"][0] = ("raise", 2)
        program = Program(2, 2, {"x": 0}, masked, {"a": (1, "low"), "b": (2, "high")})
        self.assertEqual(meetings(program, "s"), [])

    def test_sections_that_are_opened_twice_by_one_procedure(self):
        program = Program(1, 2, {"x": 0}, {"main": [("open", "s"), ("open", "s"), ("open", "r")]}, {})
        self.assertEqual(meetings(program, "s"), [("main", 1, 0, (0, 0, 1), 0, 0)])
        self.assertEqual(meetings(program, "r"), [])

    def test_lines_on_four_levels(self):
        rows = {"main": [("look", "x")]}
        lines = {}
        for level in range(1, 5):
            name = "abcd"[level - 1]
            rows[name] = [("if", "x", level - 1, 2), ("go", 3), ("set", "x", level)]
            lines[name] = (level, name)
        program = Program(4, 5, {"x": 0}, rows, lines)
        self.assertEqual(seen_at(program, "main", 0), [0, 1, 2, 3, 4])
        self.assertEqual(len(script_to(program, ("main", 0, 0, (4,), 0, 0))), 16)
        nested = [place for place in places(program) if place[:2] == ("d", 2)]
        self.assertEqual(nested, [("d", 2, 0, (3,), 4, 4)])
        upward = {level: program.with_guards({("main", 0): level}) for level in range(1, 5)}
        self.assertEqual([seen_at(upward[level], "main", 0) for level in range(1, 5)], [[0], [0], [0], [0]])
        self.assertEqual(masks_at(program, "c", 1), [3])
        self.assertEqual(masks_at(program, "main", 1), [0])

    def test_a_script_goes_up_three_levels_at_once(self):
        rows = {"main": [("set", "x", 1)], "a": [("add", "x", 1)], "b": [("add", "x", 1)], "c": [("look", "x")]}
        program = Program(3, 4, {"x": 0}, rows, {"a": (1, "a"), "b": (2, "b"), "c": (3, "c")})
        self.assertEqual(script_to(program, ("c", 0, 0, (0,), 3, 3)), [("serve", "c")])
        self.assertEqual(len(script_to(program, ("c", 0, 0, (3,), 3, 3))), 6)
        self.assertEqual(len(script_to(program, ("b", 1, 0, (2,), 2, 2))), 3)

    def test_the_shortest_way_may_go_by_a_line(self):
        slow = [("keep",)] * 8 + [("set", "x", 1), ("look", "x")]
        program = Program(1, 2, {"x": 0}, {"main": slow, "put": [("set", "x", 1), ("go", 2)]}, {"t": (1, "put")})
        self.assertEqual(len(script_to(program, ("main", 8, 0, (1,), 0, 0))), 12)
        self.assertEqual(len(script_to(program, ("main", 9, 0, (1,), 0, 0))), 9)

    def test_lines_and_calls_are_counted_move_by_move(self):
        target = ("main", 0, 0, (2,), 0, 0)
        rows = {"more": [("add", "x", 1)]}
        for many in range(4):
            rows["main"] = [("set", "x", 2)] + [("keep",)] * (3 + many) + [("go", 0)]
            program = Program(1, 3, {"x": 0}, rows, {"t": (1, "more")})
            self.assertEqual(len(script_to(program, target)), min(5 + many, 6))
        for many in range(3, 10):
            end = 5 + many
            main = [("either", 4), ("call", "sub"), ("call", "sub"), ("go", end)] + [("keep",)] * many + [("go", end)]
            program = Program(1, 2, {"x": 0}, {"main": main, "sub": [("keep",)]}, {})
            self.assertEqual(len(script_to(program, ("main", end, 0, (0,), 0, 0))), min(2 + many, 8))

    def test_points_of_two_figures_and_the_order_of_texts(self):
        program = Program(1, 3, {"x": 0}, {"main": [("any", "x")] + [("keep",)] * 11}, {})
        told = places(program)
        self.assertEqual(told, sorted(told, key=str))
        self.assertNotEqual(told, sorted(told))
        self.assertEqual([place[1] for place in told][:6], [0, 1, 1, 1, 10, 10])
        self.assertEqual(len(told), 37)
        self.assertEqual(seen_at(Program(1, 6, {"x": 0}, {"main": [("any", "x"), ("look", "x")]}, {}), "main", 1), [0, 1, 2, 3, 4, 5])

    def test_masks_are_those_of_floors_too(self):
        rows = {"main": [("call", "sub")], "sub": [("raise", 3), ("mask", 0)], "serve": [("call", "sub")]}
        program = Program(4, 2, {"x": 0}, rows, {"a": (2, "serve"), "b": (4, "serve")})
        self.assertEqual([masks_at(program, "sub", point) for point in range(3)], [[0, 2, 4], [3, 4], [0, 2, 4]])


class RefusedTest(unittest.TestCase):
    def setUp(self):
        self.program = small_program(procedures={
            "main": [("look", "x"), ("open", "s"), ("set", "x", 1)], "clock": [("look", "y")], "bell": [],
        }, guards=None)

    def refuses(self, error, value, told, *args):
        with self.assertRaises(error) as caught:
            told(*args)
        self.assertIs(type(caught.exception), error)
        self.assertIs(caught.exception.value, value)

    def test_programs(self):
        for value in odd_values():
            self.refuses(BadArgument, value, places, value)
            for told in (can_come, meetings, script_to):
                self.refuses(BadArgument, value, told, value, None)
            for told in (seen_at, masks_at):
                self.refuses(BadArgument, value, told, value, None, None)

    def test_procedures_then_points(self):
        for told in (seen_at, masks_at):
            for value in odd_values() + ["x", "tick", "s"]:
                for point in (0, 99, None):
                    self.refuses(BadProcedure, value, told, self.program, value, point)
            for value in odd_values() + [4, -1, "0"]:
                self.refuses(BadPoint, value, told, self.program, "main", value)
            self.refuses(BadPoint, 1, told, self.program, "bell", 1)

    def test_points_without_a_look(self):
        for procedure, point in [("main", 1), ("main", 2), ("main", 3), ("clock", 1), ("bell", 0)]:
            self.refuses(BadPoint, point, seen_at, self.program, procedure, point)
            masks_at(self.program, procedure, point)
        self.assertEqual(seen_at(self.program, "clock", 0), [1])

    def test_sections(self):
        for value in odd_values() + ["x", "y", "r", "main", "S"]:
            self.refuses(BadSection, value, meetings, self.program, value)

    def test_places(self):
        place = ("main", 0, 0, (0, 1, 0), 0, 0)
        self.assertEqual(script_to(self.program, place), [])
        self.assertIs(can_come(self.program, place), True)
        for value in bent_places(self.program, place) + odd_values():
            self.refuses(BadArgument, value, script_to, self.program, value)
            self.assertIs(can_come(self.program, value), False)
        self.assertEqual(script_to(self.program, place), [])


if __name__ == "__main__":
    unittest.main()
