"""[29], [1] (b): all shortest scripts to what is against claims, held against all moves."""

import random
import unittest

from maskedlevels.claims import against, holds
from maskedlevels.errors import BadArgument, BadWish
from maskedlevels.machine import played
from maskedlevels.programs import Program
from maskedlevels.shortest import fewest_moves, how_many_shortest, shortest_scripts
from tests.rounds import held_program, run_programs, waiting_program
from tests.scripted import shortest_of
from tests.test_claims import claims_about, is_against
from tests.values import Refusals, odd_values, small_program
from tests.walks import few_program

PROGRAMS = 120
ROW = ("row", 0)


class Told:
    def told(self, program, claim, scripts):
        """Holds the three calls against all shortest scripts."""
        self.assertEqual(list(shortest_scripts(program, claim)), scripts)
        self.assertEqual(how_many_shortest(program, claim), len(scripts))
        fewest = fewest_moves(program, claim)
        self.assertEqual(fewest, len(scripts[0]) if scripts else None)
        self.assertIs(holds(program, claim), not scripts)
        one = against(program, claim)
        if scripts:
            self.assertIn(one, scripts)
        else:
            self.assertIsNone(one)


class WalkedTest(unittest.TestCase, Told):
    """Claims of all sorts about many programs, against all states that their moves lead to."""

    def test_all_sorts(self):
        counts = {}
        for made in (few_program, held_program, waiting_program):
            for seed, (program, runs) in enumerate(run_programs(PROGRAMS, made, 350)):
                draw = random.Random(seed)
                claims = claims_about(draw, program, {entry: 0 for entry in runs.entries()})
                broken = [claim for claim in claims if fewest_moves(program, claim) is not None]
                for claim in draw.sample(claims, min(3, len(claims))) + draw.sample(broken, min(6, len(broken))):
                    scripts = shortest_of(program, lambda entry: is_against(program, claim, entry), 1000)
                    if scripts is None:
                        continue
                    self.told(program, claim, scripts)
                    sort = (claim[0], min(len(scripts), 2))
                    counts[sort] = counts.get(sort, 0) + 1
        self.assertEqual(len(counts), 15, counts)
        self.assertGreater(min(counts.values()), 1, counts)


class ScriptsTest(unittest.TestCase, Told):
    def made(self, rows, lines, size=2, guards=None, levels=2):
        return Program(levels, size, {"x": 0}, {"put": [], **rows}, lines, guards=guards)

    def test_one_at_the_start_itself(self):
        program = self.made({"main": [("look", "x")]}, {"t": (1, "put")})
        self.told(program, ("unseen", "main", 0, 0), [[]])
        self.told(program, ("never", ("main", 0, 0, (0,), 0, 0)), [[]])
        self.told(self.made({"main": []}, {}), ("never", ("main", 0, 0, (0,), 0, 0)), [[]])

    def test_a_claim_that_holds(self):
        program = self.made({"main": [("look", "x")]}, {"t": (1, "put")})
        for claim in [("unseen", "main", 0, 1), ("bound", "main", 0), ("clean", "main"), ("clean", "put"), ("never", ("main", 1, 0, (1,), 0, 0))]:
            self.told(program, claim, [])

    def test_lines_first_in_the_order_of_moves(self):
        program = self.made({"main": [("look", "x")], "set": [("set", "x", 1)]}, {"a": (1, "set"), "b": (2, "set"), "c": (2, "set")})
        scripts = [[("serve", line), ROW, ROW] for line in "bca"]
        self.told(program, ("unseen", "main", 0, 1), scripts)

    def test_lines_that_begin_alike_are_told_apart(self):
        program = self.made({"main": [("look", "x")], "add": [("add", "x", 1)]}, {"a": (1, "add"), "b": (1, "add")}, size=3)
        scripts = [[("serve", one), ROW, ROW, ("serve", other), ROW, ROW] for one in "ab" for other in "ab"]
        self.told(program, ("unseen", "main", 0, 2), scripts)

    def test_choices_ascending_and_behind_the_lines(self):
        program = self.made({"main": [("any", "x"), ("look", "x")]}, {}, size=4)
        for value in range(4):
            self.told(program, ("unseen", "main", 1, value), [[("row", value)]])
        program = self.made({"main": [("either", 3), ("either", 3), ("keep",), ("raise", 1)]}, {})
        self.told(program, ("never", ("main", 4, 0, (0,), 1, 0)), [[("row", 1), ROW]])
        program = self.made({"main": [("either", 2), ("go", 2), ("either", 4), ("keep",)]}, {})
        self.told(program, ("never", ("main", 3, 0, (0,), 0, 0)), [[("row", 1), ("row", 0)]])
        program = self.made({"main": [("any", "x"), ("set", "x", 0), ("raise", 1)]}, {}, size=3)
        self.told(program, ("bound", "main", 0), [[("row", value), ROW, ROW] for value in range(3)])

    def test_a_line_at_any_moment(self):
        program = self.made({"main": [("keep",)] * 3 + [("look", "x")], "add": [("add", "x", 1)]}, {"t": (1, "add")})
        served = [("serve", "t"), ROW, ROW]
        scripts = [[ROW] * at + served + [ROW] * (3 - at) for at in range(4)]
        self.told(program, ("unseen", "main", 3, 1), scripts)

    def test_through_and_in_what_is_called(self):
        rows = {"main": [("call", "sub"), ("call", "sub"), ("look", "x")], "sub": [("either", 2), ("add", "x", 1)]}
        program = self.made(rows, {})
        one, other = [ROW, ("row", 0), ROW, ROW], [ROW, ("row", 1), ROW]
        self.told(program, ("unseen", "main", 2, 1), sorted([one + other, other + one]))
        self.told(program, ("never", ("sub", 1, 0, (1,), 0, 0)), [[*one, ROW, ROW]])

    def test_it_leaves_what_it_had_begun(self):
        # The end of the line is not against it, but the main procedure behind it.
        rows = {"main": [("look", "x"), ("keep",)], "set": [("set", "x", 1), ("keep",)]}
        program = self.made(rows, {"t": (1, "set")})
        self.told(program, ("never", ("main", 0, 0, (1,), 0, 0)), [[("serve", "t"), ROW, ROW, ROW]])

    def test_several_places_that_are_against_it(self):
        rows = {"main": [("any", "x"), ("open", "s"), ("open", "s")], "set": [("open", "s"), ("close", "s")]}
        program = self.made(rows, {"t": (1, "set")})
        self.told(program, ("apart", "s"), shortest_of(program, lambda entry: is_against(program, ("apart", "s"), entry)))
        self.assertEqual(fewest_moves(program, ("apart", "s")), 2)

    def test_clean_is_told_by_the_mask_with_which_the_frame_began(self):
        rows = {"main": [("either", 2), ("mask", 1), ("call", "sub")], "sub": [("raise", 1)]}
        program = self.made(rows, {})
        self.told(program, ("clean", "sub"), [[("row", 1), ROW, ROW]])
        # One frame at this place began with this mask, the other one with another.
        place = ("sub", 1, 0, (0,), 1, 0)
        self.told(program, ("never", place), [[("row", 1), ROW, ROW]])
        program = self.made({**rows, "main": [("mask", 1), ("call", "sub")]}, {})
        self.told(program, ("clean", "sub"), [])
        self.told(program, ("clean", "main"), [[ROW] * 4])

    def test_clean_over_a_longer_way(self):
        rows = {"main": [("either", 3), ("mask", 1), ("go", 4), ("keep",), ("call", "sub")], "sub": [("mask", 0)]}
        program = self.made(rows, {})
        self.told(program, ("clean", "sub"), [[("row", 0), ROW, ROW, ROW, ROW]])

    def test_clean_of_the_procedure_of_a_line(self):
        program = self.made({"main": [("keep",)], "set": [("raise", 2)]}, {"t": (1, "set"), "u": (2, "set")})
        self.told(program, ("clean", "set"), [[("serve", "t"), ROW]])

    def test_very_many_are_counted(self):
        rows = {"main": [("look", "x")], "add": [("add", "x", 1), ("either", 2), ("either", 3), ("either", 4)]}
        program = self.made(rows, {"a": (1, "add"), "b": (1, "add")}, size=6)
        self.assertEqual(fewest_moves(program, ("unseen", "main", 0, 5)), 5 * 6)
        self.assertEqual(how_many_shortest(program, ("unseen", "main", 0, 5)), (2 * 2 ** 3) ** 5)
        told = shortest_scripts(program, ("unseen", "main", 0, 5))
        first = [("serve", "a"), ROW, ROW, ROW, ROW, ROW] * 5
        self.assertEqual(next(told), first)
        self.assertEqual(next(told), first[:-2] + [("row", 1), ROW])

    def test_yielded_scripts_can_be_changed(self):
        program = small_program()
        claim = ("bound", "main", 0)
        program = self.made({"main": [("any", "x"), ("raise", 1)]}, {})
        wanted = list(shortest_scripts(program, claim))
        found = []
        for script in shortest_scripts(program, claim):
            found.append(list(script))
            script.clear()
            script.append(None)
        self.assertEqual(found, wanted)
        self.assertEqual(len(found), 2)

    def test_scripts_are_played_by_a_machine(self):
        for seed in range(15):
            program = few_program(seed)
            for level in range(program.levels):
                for script in list(shortest_scripts(program, ("bound", "main", level)))[:5]:
                    self.assertGreater(played(program, script).mask, level)


class RefusedTest(unittest.TestCase, Refusals):
    def wrong(self):
        place = ("main", 0, 0, (0, 1, 0), 0, 0)
        return odd_values() + [
            ("never", place[:5]), ("never", ("main", 9) + place[2:]), ("unseen", "main", 0, 0), ("apart", "x"), ("clean", "tick"), ("bound", "main", 3),
            ("bound", "main", True), ("bound", "main"), ["clean", "main"], ("served", "tick"), ("short", 1, 1), ("shallow", 3), (), "clean",
        ]

    def test_at_the_call(self):
        program = small_program()
        for told in (how_many_shortest, fewest_moves):
            for value in odd_values():
                self.refuses(BadArgument, value, told, value, ("clean", "main"))
                self.refuses(BadArgument, value, told, value, None)
            for value in self.wrong():
                self.refuses(BadWish, value, told, program, value)
            told(claim=("clean", "main"), program=program)

    def test_when_it_begins_to_be_iterated_over(self):
        program = small_program()
        for value in odd_values():
            scripts = shortest_scripts(value, None)
            self.refuses(BadArgument, value, next, scripts)
        for value in self.wrong():
            scripts = shortest_scripts(program, value)
            self.refuses(BadWish, value, next, scripts)
        self.assertEqual(list(shortest_scripts(claim=("clean", "main"), program=program)), [])


if __name__ == "__main__":
    unittest.main()
