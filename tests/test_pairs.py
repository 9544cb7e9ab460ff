"""[23], [1]: pairs of cells that are seen torn, held against a player that goes through all moves."""

import random
import unittest

from maskedlevels.errors import BadArgument, BadCell
from maskedlevels.machine import played
from maskedlevels.pairs import is_torn, pair_sights, torn_script
from maskedlevels.programs import Program
from tests.values import Refusals, odd_values, small_program
from tests.walks import Traced, few_program
from tests.watching import behind_look, seats_of, sights_of, watched

PROGRAMS = 300


def pair_row(draw, size, names, end, looks):
    """A row that looks at cells, or writes them."""
    cell, value = draw.choice("cd"), draw.randrange(size)
    rows = [("set", cell, value)] * 2 + [("add", cell, 1), ("copy", "c", "d"), ("any", cell)]
    rows.extend([("if", cell, value, draw.randrange(end + 1)), ("either", draw.randrange(end + 1))])
    rows.extend([("look", "c"), ("look", "d")] * looks)
    rows.extend([("call", name) for name in names] * 2)
    return draw.choice(rows)


def pair_program(seed):
    """A program that looks at a pair of cells, and whose lines write them."""
    draw = random.Random(seed)
    levels, size, names = draw.randint(1, 2), draw.randint(2, 3), ["main", "work", "put", "more"]
    procedures = {}
    for at, name in enumerate(names):
        end = draw.randint(2, 5) if name == "main" else draw.randint(1, 3)
        procedures[name] = [pair_row(draw, size, names[at + 1:], end, [6, 4, 1, 1][at]) for _ in range(end)]
    procedures["main"] = [("look", "c"), *procedures["main"][:3], ("look", "d")]
    if draw.random() < 0.6:
        procedures["more"] = [("set", "c", draw.randrange(size)), ("set", "d", draw.randrange(size))]
    lines = {"t": (1, draw.choice(["work", "put"])), "u": (levels, "more")}
    guards = {("main", draw.randint(0, 2)): draw.randint(1, levels) for _ in range(draw.randint(0, 2))}
    return Program(levels, size, {"c": 0, "d": draw.randrange(size)}, procedures, lines, guards=guards)


def sight_at_the_end(program, script, one, other):
    """The sight that the last move of a script makes, None if it makes none."""
    player, seats, watches, sight = Traced(program), seats_of(program, one, other), (None,), None
    for move in script:
        state = player.state()
        assert move in player.moves()
        player.make(move)
        top, sight = behind_look(program, state, move, watches[-1], (one, other), seats)
        below = (watches[:-1] + (top, None))[:len(player.state()[1])]
        watches = tuple(watched(program, watch, player.state(), seats) for watch in below)
    return sight


class Sights:
    def holds_script(self, program, one, other, many):
        """Holds the script against its fewest moves, None for none."""
        script = torn_script(program, one, other)
        self.assertIs(is_torn(program, one, other), many is not None)
        if many is None:
            self.assertIsNone(script)
            return
        self.assertIs(type(script), list)
        self.assertEqual(len(script), many)
        sight = sight_at_the_end(program, script, one, other)
        self.assertIs(sight[6], True)
        self.assertIn(sight, pair_sights(program, one, other))

    def told(self, program, wanted, one="c", other="d"):
        """Holds the three calls against the sights."""
        self.assertEqual(pair_sights(program, one, other), sorted(wanted, key=str))
        torn = [sight for sight in wanted if sight[6]]
        self.assertIs(is_torn(program, one, other), bool(torn))
        script = torn_script(program, one, other)
        self.assertEqual(script is None, not torn)
        if torn:
            self.assertIn(sight_at_the_end(program, script, one, other), torn)


class WalkedTest(unittest.TestCase, Sights):
    """Each answer for many programs, against all states that their moves lead to."""

    def test_sights_and_scripts(self):
        counts = {"sights": 0, "torn": 0, "whole": 0, "none": 0}
        for made in (pair_program, few_program):
            for seed in range(PROGRAMS):
                program = made(seed)
                if program.cells() != ["c", "d"]:
                    continue
                for one, other in (("c", "d"), ("d", "c")):
                    found = sights_of(program, one, other, 700)
                    if found is None:
                        continue
                    self.assertEqual(pair_sights(program, one, other), sorted(found, key=str))
                    torn = [moves for sight, moves in found.items() if sight[6]]
                    self.holds_script(program, one, other, min(torn, default=None))
                    counts["sights"] += len(found)
                    counts["torn"] += bool(torn)
                    counts["whole"] += bool(found) and not torn
                    counts["none"] += not found
        self.assertGreater(min(counts.values()), 20, counts)


class PairsTest(unittest.TestCase, Sights):
    def made(self, rows, lines=None, start=None, levels=2, guards=None):
        parts = {"put": [("set", "c", 1), ("set", "d", 1)], **rows}
        begun = {"c": 0, "d": 0} if start is None else start
        return Program(levels, 3, begun, parts, {"t": (1, "put")} if lines is None else lines, guards=guards)

    def test_no_lines(self):
        program = self.made({"main": [("look", "c"), ("look", "d")]}, lines={})
        self.told(program, [("main", 0, 0, "main", 1, 0, False)])
        self.told(program, [], "d", "c")

    def test_a_line_that_comes_between(self):
        rows = {"main": [("look", "c"), ("look", "d")]}
        sights = [("main", 0, 0, "main", 1, 0, False), ("main", 0, 1, "main", 1, 1, False)]
        torn = ("main", 0, 0, "main", 1, 1, True)
        program = self.made(rows)
        self.told(program, sights + [torn])
        self.assertEqual(torn_script(program, "c", "d"), [("row", 0), ("serve", "t"), ("row", 0), ("row", 0), ("row", 0), ("row", 0)])
        self.told(program.with_guards({("main", 1): 1}), sights)
        self.told(program.with_guards({("main", 0): 1}), [sights[0], torn])

    def test_values_that_stood_at_once_within_a_line(self):
        # The line writes the other cell first, so that the old one and the new other stand at once in it.
        rows = {"main": [("look", "c"), ("look", "d")], "put": [("set", "d", 1), ("set", "c", 1)]}
        self.told(self.made(rows), [
            ("main", 0, 0, "main", 1, 0, False), ("main", 0, 1, "main", 1, 1, False), ("main", 0, 0, "main", 1, 1, False),
        ])

    def test_values_that_stood_at_once_within_a_line_over_a_line(self):
        rows = {"main": [("look", "c"), ("look", "d")], "put": [("set", "c", 1), ("keep",), ("set", "c", 2)], "high": [("set", "c", 0), ("set", "d", 1), ("set", "c", 1)]}
        program = self.made(rows, {"t": (1, "put"), "u": (2, "high")}, guards={("main", point): 2 for point in (0, 2)})
        found = sights_of(program, "c", "d")
        self.told(program, found)
        self.assertIn(("main", 0, 0, "main", 1, 1, False), found)
        self.assertNotIn(("main", 0, 0, "main", 1, 1, True), found)

    def test_values_that_stood_at_once_between_two_lines_alone(self):
        # First one line takes c away, then another one brings it back while d is new.
        rows = {"main": [("look", "c"), ("look", "d")], "put": [("set", "c", 1), ("add", "d", 1)], "back": [("set", "c", 0)]}
        program = self.made(rows, {"t": (1, "put"), "u": (1, "back")}, guards={("main", 0): 1, ("main", 2): 1})
        found = sights_of(program, "c", "d")
        self.told(program, found)
        self.assertIn(("main", 0, 0, "main", 1, 1, True), found)
        self.assertIn(("main", 0, 0, "main", 1, 1, False), found)

    def test_the_moment_of_the_first_look(self):
        rows = {"main": [("look", "c"), ("set", "c", 1), ("look", "d")]}
        self.told(self.made(rows, lines={}), [("main", 0, 0, "main", 2, 0, False)])
        rows = {"main": [("look", "c"), ("set", "c", 1), ("set", "d", 2), ("look", "d")]}
        self.told(self.made(rows, lines={}), [("main", 0, 0, "main", 3, 2, True)])

    def test_moments_ahead_of_the_first_look_do_not_count(self):
        rows = {"main": [("set", "d", 2), ("set", "d", 1), ("look", "c"), ("set", "c", 1), ("set", "d", 2), ("look", "d")]}
        self.told(self.made(rows, lines={}), [("main", 2, 0, "main", 5, 2, True)])

    def test_the_moment_of_the_second_look(self):
        rows = {"main": [("look", "c"), ("set", "c", 1), ("set", "d", 2), ("set", "c", 0), ("look", "d")]}
        self.told(self.made(rows, lines={}), [("main", 0, 0, "main", 4, 2, False)])

    def test_moments_behind_the_second_look_do_not_count(self):
        rows = {"main": [("look", "c"), ("set", "c", 1), ("set", "d", 2), ("look", "d"), ("set", "c", 0), ("look", "d")]}
        self.told(self.made(rows, lines={}), [("main", 0, 0, "main", 3, 2, True)])

    def test_a_moment_between_of_the_activation_itself(self):
        rows = {"main": [("look", "c"), ("set", "d", 2), ("set", "c", 1), ("set", "d", 1), ("look", "d")]}
        self.told(self.made(rows, lines={}), [("main", 0, 0, "main", 4, 1, True)])
        rows["main"][3] = ("set", "d", 2)
        self.told(self.made(rows, lines={}), [("main", 0, 0, "main", 4, 2, False)])

    def test_a_look_at_the_one_between(self):
        rows = {"main": [("look", "c"), ("set", "c", 1), ("look", "c"), ("look", "d"), ("look", "d")]}
        self.told(self.made(rows, lines={}), [("main", 2, 1, "main", 3, 0, False)])

    def test_a_look_that_no_other_one_follows(self):
        self.told(self.made({"main": [("look", "d"), ("look", "c")]}), [])
        rows = {"main": [("look", "d")], "put": [("look", "c")]}
        self.told(self.made(rows), [])

    def test_looks_of_what_is_called(self):
        rows = {"main": [("call", "first"), ("call", "second")], "first": [("look", "c")], "second": [("look", "d")]}
        self.told(self.made(rows, lines={}), [("first", 0, 0, "second", 0, 0, False)])
        self.assertEqual(len(pair_sights(self.made(rows), "c", "d")), 3)
        rows = {"main": [("look", "c"), ("call", "second")], "second": [("look", "d")]}
        self.told(self.made(rows, lines={}), [("main", 0, 0, "second", 0, 0, False)])
        rows = {"main": [("call", "first"), ("look", "d")], "first": [("look", "c")]}
        self.told(self.made(rows, lines={}), [("first", 0, 0, "main", 1, 0, False)])

    def test_looks_of_another_activation(self):
        # Neither does the line end the sight below it, nor does its look at d belong to the look below.
        rows = {"main": [("look", "c"), ("look", "d")], "put": [("look", "d"), ("look", "c")]}
        self.told(self.made(rows), [("main", 0, 0, "main", 1, 0, False)])
        rows = {"main": [("look", "c")], "put": [("look", "d")]}
        self.told(self.made(rows), [])
        rows = {"main": [("look", "c"), ("look", "d")], "put": [("look", "c"), ("look", "d")]}
        self.told(self.made(rows), [("main", 0, 0, "main", 1, 0, False), ("put", 0, 0, "put", 1, 0, False)])

    def test_a_line_is_torn_by_a_line_above_it(self):
        rows = {"main": [("keep",)], "read": [("look", "c"), ("look", "d")]}
        program = self.made(rows, {"t": (1, "read"), "u": (2, "put")})
        self.assertIs(is_torn(program, "c", "d"), True)
        self.assertEqual(len(torn_script(program, "c", "d")), 7)
        self.told(program, sights_of(program, "c", "d"))
        self.assertIs(is_torn(self.made(rows, {"t": (1, "read"), "u": (1, "put")}), "c", "d"), False)

    def test_a_line_that_is_served_over_a_look_looks_for_itself(self):
        rows = {"main": [("look", "c"), ("set", "c", 2)], "read": [("look", "c"), ("look", "d")]}
        program = self.made(rows, {"t": (1, "read"), "u": (2, "put")}, guards={("main", 0): 2, ("main", 2): 2})
        self.told(program, sights_of(program, "c", "d"))
        self.assertEqual(torn_script(program, "c", "d")[:3], [("row", 0), ("serve", "t"), ("row", 0)])

    def test_the_shortest_way_to_a_torn_one(self):
        rows = {"main": [("either", 4), ("look", "c"), ("look", "d"), ("go", 7), ("keep",), ("look", "c"), ("look", "d")]}
        program = self.made(rows, guards={("main", 0): 1, ("main", 1): 1})
        self.holds_script(program, "c", "d", 7)
        self.holds_script(program.with_guards({("main", 2): 1}), "c", "d", 8)

    def test_the_order_of_texts(self):
        rows = {"main": [("look", "c")] + [("any", "d")] + [("keep",)] * 8 + [("either", 12), ("look", "d"), ("look", "d")]}
        told = pair_sights(self.made(rows, lines={}), "c", "d")
        self.assertEqual(told, sorted(told, key=str))
        self.assertEqual(len(told), 6)

    def test_other_words_of_cells(self):
        program = self.made({"main": [("look", "d"), ("look", "c"), ("look", "d")]}, lines={})
        self.told(program, [("main", 0, 0, "main", 1, 0, False)], "d", "c")
        self.told(program, [("main", 1, 0, "main", 2, 0, False)], "c", "d")


class RefusedTest(unittest.TestCase, Refusals):
    def test_programs_then_cells(self):
        program = small_program()
        for told in (pair_sights, is_torn, torn_script):
            for value in odd_values():
                self.refuses(BadArgument, value, told, value, "x", "y")
                self.refuses(BadArgument, value, told, value, None, None)
            for value in odd_values() + ["s", "main", "tick", "z", "X"]:
                self.refuses(BadCell, value, told, program, value, "y")
                self.refuses(BadCell, value, told, program, value, value)
                self.refuses(BadCell, value, told, program, "x", value)
                self.refuses(BadCell, value, told, program, value, None)
            for cell in ("x", "y"):
                self.refuses(BadCell, cell, told, program, cell, cell)
            told(program=program, other="x", one="y")


if __name__ == "__main__":
    unittest.main()
