"""[13], [1]: claims about programs, and what shows them or is against them."""

import random
import unittest

from maskedlevels.claims import against, holds, is_shown
from maskedlevels.errors import BadArgument
from maskedlevels.machine import played
from maskedlevels.programs import Program
from maskedlevels.reached import seen_at
from maskedlevels.tables import more_of, table_of
from tests.closing import closure
from tests.values import odd_values, small_program
from tests.walks import Traced, any_entry, any_place, place_in, walked_programs

PROGRAMS = 150


def claims_about(draw, program, found):
    """Claims of all sorts about a program, with some of the places that it comes to."""
    claims = [("never", place_in(entry)) for entry in draw.sample(sorted(found), min(3, len(found)))]
    claims.extend(("never", any_place(draw, program)) for _ in range(3))
    claims.extend(("apart", section) for section in program.sections())
    for procedure in program.procedures():
        claims.append(("clean", procedure))
        claims.extend(("bound", procedure, level) for level in range(program.levels + 1))
        for point, row in enumerate(program[procedure]):
            if row[0] == "look":
                claims.extend(("unseen", procedure, point, value) for value in range(program.size))
    return claims


def is_against(program, claim, entry):
    """Whether an entry is against a claim, word by word."""
    procedure, point, _, store, mask, _ = place_in(entry)
    row = (program[procedure] + [("end",)])[point]
    values = dict(zip(program.cells() + program.sections(), store))
    if claim[0] == "never":
        return place_in(entry) == claim[1]
    if claim[0] == "unseen":
        return (procedure, point, values.get(row[-1])) == claim[1:]
    if claim[0] == "apart":
        return row == ("open", claim[1]) and values[claim[1]] == 1
    if claim[0] == "clean":
        return procedure == claim[1] and row == ("end",) and mask != entry[0][3]
    return procedure == claim[1] and mask > claim[2]


def entry_behind(program, script):
    """The entry that a run of the script comes to."""
    player = Traced(program)
    for move in script:
        player.make(move)
    return player.entry()


class WalkedTest(unittest.TestCase):
    """Claims of all sorts about many programs, against all states that moves lead to."""

    def test_holds_against_and_is_shown(self):
        counts = {}
        for seed, (program, found) in enumerate(walked_programs(PROGRAMS)):
            draw, table = random.Random(seed), table_of(program)
            for claim in claims_about(draw, program, found):
                lengths = [moves for entry, moves in found.items() if is_against(program, claim, entry)]
                counts[claim[0], not lengths] = counts.get((claim[0], not lengths), 0) + 1
                self.assertIs(holds(program, claim), not lengths)
                self.assertIs(is_shown(program, table, claim), not lengths)
                script = against(program, claim)
                if not lengths:
                    self.assertIsNone(script)
                    continue
                self.assertEqual(len(script), min(lengths))
                entry = entry_behind(program, script)
                self.assertTrue(is_against(program, claim, entry))
                self.assertEqual(played(program, script).place(), place_in(entry))
        self.assertEqual(len(counts), 10)
        self.assertGreater(min(counts.values()), 15, counts)

    def test_a_claim_holds_exactly_if_some_closed_table_shows_it(self):
        shown = {}
        for seed, (program, found) in enumerate(walked_programs(60)):
            draw = random.Random(seed)
            tables = [table_of(program)]
            for _ in range(2):
                tables.append(list(closure(program, tables[-1] + [any_entry(draw, program)])))
            for claim in claims_about(draw, program, found):
                told = [is_shown(program, table, claim) for table in tables]
                self.assertEqual(told, [not any(is_against(program, claim, row) for row in table) for table in tables])
                self.assertIs(holds(program, claim), any(told))
                shown[tuple(told)] = True
        # A greater table may show less, never more.
        self.assertEqual(set(shown), {(True, True, True), (True, True, False), (True, False, False), (False, False, False)})

    def test_a_table_that_is_not_closed_shows_nothing(self):
        for seed, (program, found) in enumerate(walked_programs(40)):
            draw, table = random.Random(seed), table_of(program)
            claims = claims_about(draw, program, found)
            for entry in draw.sample(table, min(4, len(table))):
                value = [other for other in table if other != entry]
                self.assertNotEqual(more_of(program, value), [])
                self.assertFalse(any(is_shown(program, value, claim) for claim in draw.sample(claims, 4)))


class SortsTest(unittest.TestCase):
    """Each sort of claims, one that holds and one that does not."""

    def setUp(self):
        rows = {
            "main": [("look", "x"), ("open", "s"), ("call", "sub"), ("close", "s"), ("mask", 0)],
            "sub": [("raise", 1)], "put": [("set", "x", 1)], "meet": [("open", "s"), ("open", "r"), ("close", "r")],
            "lower": [("mask", 0)],
        }
        lines = {"t": (1, "put"), "u": (2, "meet"), "v": (2, "lower")}
        self.program = Program(2, 3, {"x": 0}, rows, lines, guards={("main", 0): 1})

    def told(self, claim, script):
        """Holds the three calls against a script, or None for a claim that holds."""
        table = table_of(self.program)
        self.assertIs(holds(self.program, claim), script is None)
        self.assertIs(is_shown(self.program, table, claim), script is None)
        self.assertEqual(against(self.program, claim), script)

    def test_never(self):
        self.told(("never", ("main", 0, 0, (0, 0, 0), 0, 0)), [])
        self.told(("never", ("main", 0, 0, (1, 0, 0), 0, 0)), None)
        self.told(("never", ("main", 1, 0, (1, 0, 0), 0, 0)), [("row", 0), ("serve", "t"), ("row", 0), ("row", 0)])
        self.told(("never", ("meet", 2, 0, (0, 0, 1), 2, 2)), None)
        self.told(("never", ("meet", 2, 0, (0, 1, 1), 2, 0)), None)

    def test_unseen(self):
        self.told(("unseen", "main", 0, 0), [])
        self.told(("unseen", "main", 0, 1), None)
        self.told(("unseen", "main", 0, 2), None)
        self.program = self.program.with_guards({})
        self.told(("unseen", "main", 0, 1), [("serve", "t"), ("row", 0), ("row", 0)])

    def test_apart(self):
        script = against(self.program, ("apart", "s"))
        self.told(("apart", "s"), script)
        self.assertEqual(len(script), 3)
        self.assertEqual(played(self.program, script).place()[:2], ("meet", 0))
        self.told(("apart", "r"), None)

    def test_clean(self):
        self.told(("clean", "main"), None)
        self.told(("clean", "put"), None)
        self.told(("clean", "lower"), None)
        script = [("row", 0)] * 4
        self.told(("clean", "sub"), script)
        self.assertEqual(played(self.program, script).place(), ("sub", 1, 0, (0, 0, 1), 1, 0))

    def test_clean_of_lines_and_of_the_main_one(self):
        rows = {"main": [("keep",), ("raise", 2), ("set", "x", 1)], "line": [("raise", 2)], "down": [("call", "low")],
                "low": [("mask", 0)], "same": [("raise", 2), ("mask", 1)]}
        lines = {"t": (1, "line"), "u": (1, "same"), "v": (1, "down")}
        self.program = Program(2, 3, {"x": 0}, rows, lines)
        self.told(("clean", "main"), [("row", 0)] * 3)
        self.told(("clean", "line"), [("serve", "t"), ("row", 0)])
        self.told(("clean", "same"), None)
        self.told(("clean", "low"), None)
        self.program = Program(2, 3, {"x": 0}, {**rows, "down": [("raise", 2), ("call", "low")]}, lines)
        self.told(("clean", "low"), [("serve", "v"), ("row", 0), ("row", 0), ("row", 0)])
        self.told(("clean", "down"), None)

    def test_bound(self):
        self.told(("bound", "main", 0), against(self.program, ("bound", "main", 0)))
        self.assertEqual(len(against(self.program, ("bound", "main", 0))), 5)
        self.told(("bound", "main", 1), None)
        self.told(("bound", "sub", 0), [("row", 0)] * 4)
        self.told(("bound", "put", 1), None)
        self.told(("bound", "put", 0), [("row", 0), ("serve", "t")])
        self.told(("bound", "meet", 2), None)

    def test_what_no_run_comes_to(self):
        rows = {"main": [], "never": [("raise", 1), ("open", "s"), ("open", "s"), ("look", "x")]}
        self.program = Program(1, 2, {"x": 0}, rows, {})
        for claim in [("clean", "never"), ("bound", "never", 0), ("apart", "s"), ("unseen", "never", 3, 0)]:
            self.told(claim, None)

    def test_the_example_of_the_interface(self):
        program = Program(1, 2, {"x": 0}, {"main": [("look", "x")], "flip": [("add", "x", 1)]}, {"t": (1, "flip")})
        script = against(program, ("unseen", "main", 0, 1))
        self.assertEqual((seen_at(program, "main", 0), script), ([0, 1], [("serve", "t"), ("row", 0), ("row", 0)]))


class RefusedTest(unittest.TestCase):
    def setUp(self):
        rows = {"main": [("look", "x"), ("open", "s"), ("set", "x", 1)], "sub": []}
        self.program = Program(2, 3, {"x": 0}, rows, {"t": (1, "sub")})
        self.table = table_of(self.program)
        self.good = [
            ("never", ("main", 0, 0, (0, 0), 0, 0)), ("unseen", "main", 0, 2), ("apart", "s"), ("clean", "sub"),
            ("bound", "main", 2),
        ]

    def wrong_claims(self):
        place = ("main", 0, 0, (0, 0), 0, 0)
        wrong = [
            ("unseen", "main", 1, 0), ("unseen", "main", 3, 0), ("unseen", "main", 4, 0), ("unseen", "sub", 0, 0),
            ("unseen", "main", 0, 3), ("unseen", "main", 0, -1), ("unseen", "other", 0, 0), ("unseen", "main", -1, 0),
            ("apart", "x"), ("apart", "main"), ("apart", "r"), ("clean", "s"), ("clean", "t"), ("bound", "main", 3),
            ("bound", "main", -1), ("bound", "other", 0), ("never", place + (0,)), ("never", place[:5]), ("never", list(place)),
            ("never", ("main", 4, 0, (0, 0), 0, 0)), ("never", ("main", 0, 3, (0, 0), 0, 0)), ("never", ("main", 0, 0, (3, 0), 0, 0)),
            ("never", ("main", 0, 0, (0, 2), 0, 0)), ("never", ("main", 0, 0, (0, 0), 0, 1)), ("never", ("main", 0, 0, (0, 0), 3, 0)),
            ("served", "t"), ("short", 1, 1), ("shallow", 1), ("Never", place), ("", "s"), ("open", "s"),
        ]
        for claim in self.good:
            wrong.extend([claim + (0,), claim[:-1], list(claim), claim[::-1], claim + claim[1:], " ".join(map(str, claim))])
            for at in range(len(claim)):
                wrong.extend(claim[:at] + (odd,) + claim[at + 1:] for odd in odd_values())
            for odd in odd_values():
                wrong.append(("never", place[:5] + (odd,)))
        return wrong + odd_values()

    def test_what_is_no_claim(self):
        for value in self.wrong_claims():
            for told in (holds, against, lambda program, claim: is_shown(program, None, claim)):
                with self.assertRaises(BadArgument) as caught:
                    told(self.program, value)
                self.assertIs(caught.exception.value, value)
        for claim in self.good:
            self.assertIs(holds(self.program, claim), against(self.program, claim) is None)

    def test_what_is_no_program(self):
        for value in odd_values():
            for told in (lambda: holds(value, None), lambda: against(value, None), lambda: is_shown(value, None, None)):
                with self.assertRaises(BadArgument) as caught:
                    told()
                self.assertIs(caught.exception.value, value)

    def test_any_value_shows_or_not(self):
        for claim in self.good:
            for value in odd_values() + [self.table[1:], dict.fromkeys(self.table), [self.table]]:
                self.assertIs(is_shown(self.program, value, claim), False)
            self.assertIs(is_shown(claim=claim, value=tuple(self.table[::-1]), program=self.program), claim[0] != "never")

    def test_claims_of_another_program(self):
        other = small_program()
        for claim in [("apart", "s"), ("clean", "bell"), ("bound", "clock", 2)]:
            self.assertIs(type(holds(other, claim)), bool)
        for claim in [("clean", "bell"), ("bound", "clock", 2)]:
            with self.assertRaises(BadArgument):
                holds(self.program, claim)


if __name__ == "__main__":
    unittest.main()
