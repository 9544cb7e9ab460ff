"""[31], [1]: machines that hold claims, beside plain machines."""

import random
import unittest

from maskedlevels.errors import BadArgument, BadMove, BadScript, Broken
from maskedlevels.guarded import Guarded
from maskedlevels.machine import Machine, played
from maskedlevels.programs import Program
from tests.rounds import held_program, run_programs
from tests.test_claims import claims_about, is_against
from tests.test_sights import look_program
from tests.values import Refusals, are_same, odd_values, small_program
from tests.walks import few_program

PROGRAMS = 80
ROW = ("row", 0)


def breaks(program, claim, place):
    """Whether a state at a place breaks a held claim."""
    procedure, point, kept, store, mask, floor = place
    return is_against(program, claim, ((procedure, floor, store, mask), point, kept, store, mask))


def first_broken(program, claims, place):
    return next((claim for claim in claims if breaks(program, claim, place)), None)


def told_by(machine):
    """All that a machine tells of where it stands."""
    return (machine.place(), machine.frames(), machine.at_rest(), machine.store, machine.mask, machine.moves())


class WalkedTest(unittest.TestCase):
    """Runs of many programs, move by move beside a machine that holds nothing."""

    def held_for(self, draw, program, runs):
        """Some held claims that the start does not break."""
        claims = [claim for claim in claims_about(draw, program, {entry: 0 for entry in runs.entries()}) if claim[0] != "clean"]
        claims = [claim for claim in claims if not breaks(program, claim, Machine(program).place())]
        return [draw.choice(claims) for _ in range(draw.randint(0, 3))] if claims else []

    def test_moves(self):
        counts = {}
        for made in (few_program, held_program, look_program):
            for seed, (program, runs) in enumerate(run_programs(PROGRAMS, made, 400)):
                draw = random.Random(seed)
                claims = self.held_for(draw, program, runs)
                machine, plain = Guarded(program, *claims), Machine(program)
                self.assertTrue(are_same(machine.claims(), claims))
                for _ in range(25):
                    self.assertEqual(told_by(machine), told_by(plain))
                    places = {move: played_on(plain, move).place() for move in plain.moves()}
                    broken = {move: first_broken(program, claims, place) for move, place in places.items()}
                    held = [move for move in plain.moves() if broken[move] is None]
                    self.assertEqual(machine.held_moves(), held)
                    for move, claim in broken.items():
                        if claim is not None:
                            counts[claim[0]] = counts.get(claim[0], 0) + 1
                            self.holds_broken(machine, move, claim)
                    self.assertEqual(told_by(machine), told_by(plain))
                    if not held:
                        break
                    move = draw.choice(held)
                    self.assertIsNone(machine(move))
                    plain(move)
        self.assertEqual(len(counts), 4, counts)
        self.assertGreater(min(counts.values()), 5, counts)

    def holds_broken(self, machine, move, claim):
        with self.assertRaises(Broken) as caught:
            machine(move)
        self.assertIs(caught.exception.claim, claim)

    def test_scripts(self):
        counts = {"right": 0, "script": 0, "broken": 0}
        for made in (few_program, held_program, look_program):
            for seed, (program, runs) in enumerate(run_programs(PROGRAMS, made, 400)):
                draw = random.Random(seed)
                claims = self.held_for(draw, program, runs)
                for _ in range(4):
                    script, plain = [], Machine(program)
                    for _ in range(draw.randint(0, 12)):
                        if plain.moves():
                            script.append(draw.choice(plain.moves()))
                            plain(script[-1])
                    if draw.random() < 0.4:
                        script.insert(draw.randint(0, len(script)), draw.choice([("row", 9), None, ("serve", "x")]))
                    self.holds_play(program, claims, script, counts)
        self.assertGreater(min(counts.values()), 20, counts)

    def holds_play(self, program, claims, script, counts):
        machine, plain = Guarded(program, *claims), Machine(program)
        for at, move in enumerate(script):
            if move not in plain.moves():
                counts["script"] += 1
                with self.assertRaises(BadScript) as caught:
                    machine.play(script)
                self.assertEqual(caught.exception.at, at)
                break
            plain(move)
            claim = first_broken(program, claims, plain.place())
            if claim is not None:
                counts["broken"] += 1
                with self.assertRaises(Broken) as caught:
                    machine.play(script)
                self.assertIs(caught.exception.claim, claim)
                break
        else:
            counts["right"] += 1
            self.assertIsNone(machine.play(script))
            self.assertEqual(told_by(machine), told_by(plain))
            return
        self.assertEqual(told_by(machine), told_by(Machine(program)))


def played_on(machine, move):
    """A machine that goes on with a move by itself."""
    other = machine.copied()
    other(move)
    return other


class GuardedTest(unittest.TestCase, Refusals):
    def setUp(self):
        rows = {
            "main": [("any", "x"), ("look", "x"), ("open", "s"), ("raise", 2), ("close", "s")],
            "put": [("open", "s"), ("set", "x", 0), ("close", "s")],
        }
        self.program = Program(2, 3, {"x": 0}, rows, {"t": (1, "put")})

    def test_no_claims(self):
        machine = Guarded(self.program)
        self.assertEqual(machine.claims(), [])
        self.assertEqual(machine.held_moves(), machine.moves())
        machine.play([("row", 2), ROW, ROW, ROW])
        self.assertEqual(machine.mask, 2)
        self.assertIs(machine.program, self.program)
        self.assertEqual(Guarded(program=self.program).place(), Machine(self.program).place())

    def test_each_sort(self):
        for claim, script, move in [
            (("never", ("main", 2, 0, (1, 0), 0, 0)), [("row", 1)], ROW), (("unseen", "main", 1, 2), [], ("row", 2)),
            (("apart", "s"), [("row", 0), ROW, ROW], ("serve", "t")), (("bound", "main", 1), [("row", 0), ROW, ROW], ROW),
            (("bound", "put", 0), [], ("serve", "t")),
        ]:
            machine = Guarded(self.program, claim)
            machine.play(script)
            before = told_by(machine)
            self.refuses(Broken, claim, machine, move)
            self.refuses(Broken, claim, machine.play, [move])
            self.assertEqual(told_by(machine), before)
            self.assertIn(move, machine.moves())
            self.assertNotIn(move, machine.held_moves())
            with self.assertRaises(Broken):
                machine(move=move)

    def test_other_places_break_nothing(self):
        machine = Guarded(self.program, ("never", ("main", 2, 0, (1, 0), 0, 0)), ("unseen", "main", 1, 2), ("bound", "put", 1))
        machine.play([("row", 1), ("serve", "t"), ROW, ROW, ROW, ROW, ROW, ROW])
        self.assertEqual(machine.place(), ("main", 3, 0, (0, 1), 0, 0))

    def test_several_and_doubles(self):
        one, other, third = ("bound", "main", 0), ("bound", "main", 1), ("apart", "s")
        for claims, first in [((one, other), one), ((other, one), other), ((third, other, one, other), other)]:
            machine = Guarded(self.program, *claims)
            machine.play([("row", 0), ROW, ROW])
            self.refuses(Broken, first, machine, ROW)
            self.assertTrue(are_same(machine.claims(), list(claims)))
        self.assertEqual(Guarded(self.program, one, one).claims(), [one, one])

    def test_the_start_breaks(self):
        place = ("main", 0, 0, (0, 0), 0, 0)
        never, bound = ("never", place), ("bound", "main", 0)
        for claims in [(never,), (bound, never), (never, never)]:
            self.refuses(Broken, claims[-1], Guarded, self.program, *claims)
        program = Program(1, 2, {"x": 1}, {"main": [("look", "x")]}, {})
        first, second = ("unseen", "main", 0, 1), ("never", ("main", 0, 0, (1,), 0, 0))
        self.refuses(Broken, first, Guarded, program, first, second)
        self.refuses(Broken, second, Guarded, program, ("unseen", "main", 0, 0), second, first)

    def test_what_is_no_held_claim_goes_ahead_of_what_the_start_breaks(self):
        never = ("never", ("main", 0, 0, (0, 0), 0, 0))
        wrong = [
            ("clean", "main"), ("never", ("main", 9, 0, (0, 0), 0, 0)), ("unseen", "main", 0, 0), ("unseen", "main", 1, 3), ("apart", "x"), ("bound", "main", 3),
            ("bound", "main", True), ["apart", "s"], [], (), ("served", "t"), ("shallow", 3), *odd_values(),
        ]
        for value in wrong:
            self.refuses(BadArgument, value, Guarded, self.program, value)
            self.refuses(BadArgument, value, Guarded, self.program, never, value, ("clean", "put"))
            self.refuses(BadArgument, value, Guarded, self.program, ("apart", "s"), value, None, never)
        for value in odd_values():
            self.refuses(BadArgument, value, Guarded, value)
            self.refuses(BadArgument, value, Guarded, value, never)
            self.refuses(BadArgument, value, Guarded, value, None)

    def test_moves_that_cannot_be_made_go_first(self):
        machine = Guarded(self.program, ("bound", "put", 0))
        for value in odd_values() + [("serve", "u"), ("row", 3), ("row", -1), ("row", False), ["serve", "t"]]:
            self.refuses(BadMove, value, machine, value)
        self.refuses(Broken, ("bound", "put", 0), machine, ("serve", "t"))

    def test_whichever_comes_first_in_a_script(self):
        claim = ("bound", "put", 0)
        machine = Guarded(self.program, claim)
        for script, at in [([("row", 3), ("serve", "t")], 0), ([("row", 1), None, ("serve", "t")], 1), ([ROW] * 5 + [ROW], 5), ("no list", 0), ((ROW,), 0), (None, 0)]:
            with self.assertRaises(BadScript) as caught:
                machine.play(script=script)
            self.assertEqual(caught.exception.at, at)
        for script in [[("serve", "t"), None], [("row", 1), ("serve", "t"), ("row", 9)], [ROW, ROW, ("serve", "t")]]:
            self.refuses(Broken, claim, machine.play, script)
        self.assertEqual(told_by(machine), told_by(Machine(self.program)))
        machine.play([("row", 1), ROW])
        # A script goes on from where it stands.
        self.refuses(Broken, claim, machine.play, [ROW, ("serve", "t")])
        self.assertEqual(told_by(machine), told_by(played(self.program, [("row", 1), ROW])))

    def test_a_copy_is_plain(self):
        machine = Guarded(self.program, ("bound", "put", 0))
        machine(("row", 2))
        other = machine.copied()
        self.assertIs(type(other), Machine)
        self.assertEqual(told_by(other), told_by(machine))
        other(("serve", "t"))
        self.assertEqual(machine.place(), ("main", 1, 0, (2, 0), 0, 0))
        self.assertEqual(other.place()[0], "put")

    def test_no_moves_that_hold(self):
        machine = Guarded(self.program, ("bound", "put", 0), ("unseen", "main", 1, 0), ("unseen", "main", 1, 1), ("unseen", "main", 1, 2))
        self.assertEqual(machine.held_moves(), [])
        self.assertEqual(len(machine.moves()), 4)

    def test_what_is_told_and_given_can_be_changed(self):
        claims, script = [("bound", "put", 0)], [("row", 1)]
        machine = Guarded(self.program, *claims)
        claims.clear()
        machine.claims().clear()
        machine.held_moves().clear()
        machine.play(script)
        self.assertEqual((script, machine.claims()), ([("row", 1)], [("bound", "put", 0)]))
        self.assertEqual(machine.held_moves(), [ROW])

    def test_another_machine_goes_by_itself(self):
        program = small_program()
        one, other = Guarded(program, ("bound", "main", 0)), Guarded(program, ("bound", "main", 0))
        one(ROW)
        self.assertNotEqual(one.place(), other.place())


if __name__ == "__main__":
    unittest.main()
