"""[21], [1] (h): sessions keep a program, and attempts are taken back unless they are held fast."""

import random
import unittest

from maskedlevels.errors import BadArgument, BadNumber, BadPoint, BadProcedure, NothingLeft
from maskedlevels.programs import Program
from maskedlevels.sessions import Attempt, Session, attempted
from tests.values import Refusals, odd_values, small_program
from tests.walks import few_program

FIRST = {("main", 4): 1, ("clock", 0): 2}


class SessionTest(unittest.TestCase, Refusals):
    def setUp(self):
        self.session = Session(small_program())

    def guards(self):
        return self.session.guarded().guards()

    def test_a_new_one(self):
        self.assertIs(type(self.session.guarded()), Program)
        self.assertEqual(self.session.guarded(), small_program())
        self.assertEqual(len(self.session), 0)
        self.assertEqual(len(Session(program=small_program())), 0)

    def test_set_set_anew_and_taken_away(self):
        self.assertIsNone(self.session.guard("sub", 1, 2))
        self.assertEqual(self.guards(), {**FIRST, ("sub", 1): 2})
        self.session.guard(level=1, point=1, procedure="sub")
        self.assertEqual(self.guards(), {**FIRST, ("sub", 1): 1})
        self.session.guard("sub", 1, 0)
        self.assertEqual(self.guards(), FIRST)
        self.session.guard("main", 4, 0)
        self.assertEqual(self.guards(), {("clock", 0): 2})
        self.assertEqual(len(self.session), 4)
        self.assertEqual(self.session.guarded(), small_program(guards={("clock", 0): 2}))

    def test_what_changes_nothing_is_a_change(self):
        self.session.guard("main", 4, 1)
        self.session.guard("main", 3, 0)
        self.assertEqual(self.session.guarded(), small_program())
        self.assertEqual(len(self.session), 2)
        self.session.undo()
        self.assertEqual(len(self.session), 1)
        self.assertEqual(self.session.guarded(), small_program())

    def test_undo(self):
        told = [self.session.guarded()]
        for point in range(5):
            self.session.guard("main", point, point % 3)
            told.append(self.session.guarded())
        for many in range(4, -1, -1):
            self.assertIsNone(self.session.undo())
            self.assertEqual(len(self.session), many)
            self.assertEqual(self.session.guarded(), told[many])
        self.assertEqual(self.session.guarded(), small_program())
        for _ in range(2):
            with self.assertRaises(NothingLeft):
                self.session.undo()
        self.assertEqual(self.session.guarded(), small_program())
        self.session.guard("main", 0, 2)
        self.assertEqual(len(self.session), 1)

    def test_undo_goes_on_behind_a_change(self):
        self.session.guard("main", 0, 1)
        self.session.guard("main", 1, 1)
        self.session.undo()
        self.session.guard("main", 2, 1)
        self.session.undo()
        self.assertEqual(self.guards(), {**FIRST, ("main", 0): 1})
        self.session.undo()
        self.assertEqual(self.guards(), FIRST)

    def test_programs_that_were_told_stay(self):
        before = self.session.guarded()
        self.session.guard("main", 0, 2)
        self.assertEqual(before, small_program())
        behind = self.session.guarded()
        self.session.undo()
        self.assertEqual(behind.guards(), {**FIRST, ("main", 0): 2})
        behind.guards().clear()
        self.assertEqual(self.session.guarded(), small_program())

    def test_the_program_that_was_given_stays(self):
        program = small_program()
        session = Session(program)
        session.guard("main", 0, 1)
        self.assertEqual(program, small_program())
        other = Session(program)
        self.assertEqual((len(other), other.guarded()), (0, small_program()))

    def test_refuses(self):
        for value in odd_values():
            self.refuses(BadArgument, value, Session, value)
        self.session.guard("main", 0, 1)
        for value in odd_values() + ["x", "tick", "other"]:
            self.refuses(BadProcedure, value, self.session.guard, value, 99, 99)
            self.refuses(BadProcedure, value, self.session.guard, value, value, value)
        for value in odd_values() + [5, "0"]:
            self.refuses(BadPoint, value, self.session.guard, "main", value, 99)
            self.refuses(BadPoint, value, self.session.guard, "main", value, value)
        self.refuses(BadPoint, 1, self.session.guard, "bell", 1, 1)
        for value in odd_values() + [3, -1, "1"]:
            self.refuses(BadNumber, value, self.session.guard, "main", 0, value)
        self.assertEqual(self.guards(), {**FIRST, ("main", 0): 1})
        self.assertEqual(len(self.session), 1)


class AttemptTest(unittest.TestCase):
    def setUp(self):
        self.session = Session(small_program())
        self.session.guard("main", 0, 1)
        self.before = {**FIRST, ("main", 0): 1}

    def is_now(self, guards, many):
        self.assertEqual(self.session.guarded().guards(), guards)
        self.assertEqual(len(self.session), many)

    def test_entering_gives_the_attempt(self):
        attempt = Attempt(self.session)
        with attempt as given:
            self.assertIs(given, attempt)
        with Attempt(session=self.session) as given:
            self.assertIs(type(given), Attempt)

    def test_it_is_taken_back(self):
        with Attempt(self.session):
            self.session.guard("main", 1, 2)
            self.session.guard("main", 0, 0)
            self.is_now({**FIRST, ("main", 1): 2}, 3)
        self.is_now(self.before, 1)
        self.session.undo()
        self.is_now(FIRST, 0)

    def test_what_is_undone_in_it_is_there_again(self):
        with Attempt(self.session):
            self.session.undo()
            self.is_now(FIRST, 0)
        self.is_now(self.before, 1)
        with Attempt(self.session):
            self.session.undo()
            self.session.guard("main", 2, 2)
            self.session.guard("main", 3, 2)
        self.is_now(self.before, 1)
        self.session.undo()
        self.is_now(FIRST, 0)

    def test_an_error_leaves_the_block(self):
        for error in (ValueError, KeyError, BadPoint):
            with self.assertRaises(error):
                with Attempt(self.session):
                    self.session.guard("main", 1, 2)
                    raise error("x")
            self.is_now(self.before, 1)
        with self.assertRaises(BadPoint):
            with Attempt(self.session):
                self.session.guard("main", 1, 2)
                self.session.guard("main", 9, 2)
        self.is_now(self.before, 1)

    def test_hold_fast(self):
        with Attempt(self.session) as attempt:
            self.session.guard("main", 1, 2)
            self.assertIsNone(attempt.hold_fast())
            self.session.guard("main", 2, 2)
        self.is_now({**self.before, ("main", 1): 2, ("main", 2): 2}, 3)
        self.session.undo()
        self.is_now({**self.before, ("main", 1): 2}, 2)

    def test_hold_fast_and_an_error(self):
        with self.assertRaises(ValueError):
            with Attempt(self.session) as attempt:
                self.session.guard("main", 1, 2)
                attempt.hold_fast()
                raise ValueError
        self.is_now({**self.before, ("main", 1): 2}, 2)

    def test_hold_fast_ahead_of_the_block_is_none_in_it(self):
        attempt = Attempt(self.session)
        attempt.hold_fast()
        with attempt:
            self.session.guard("main", 1, 2)
        self.is_now(self.before, 1)

    def test_what_is_ahead_of_the_block_is_not_taken_back(self):
        attempt = Attempt(self.session)
        self.session.guard("main", 1, 2)
        with attempt:
            self.session.guard("main", 2, 2)
        self.is_now({**self.before, ("main", 1): 2}, 2)

    def test_attempts_in_attempts(self):
        with Attempt(self.session):
            self.session.guard("main", 1, 2)
            with Attempt(self.session) as inner:
                self.session.guard("main", 2, 2)
                inner.hold_fast()
            self.is_now({**self.before, ("main", 1): 2, ("main", 2): 2}, 3)
        self.is_now(self.before, 1)
        with Attempt(self.session) as outer:
            self.session.guard("main", 1, 2)
            with Attempt(self.session):
                self.session.guard("main", 2, 2)
            self.is_now({**self.before, ("main", 1): 2}, 2)
            outer.hold_fast()
        self.is_now({**self.before, ("main", 1): 2}, 2)

    def test_changes_behind_it(self):
        with Attempt(self.session):
            self.session.guard("main", 1, 2)
        self.session.guard("main", 2, 2)
        self.is_now({**self.before, ("main", 2): 2}, 2)
        with Attempt(self.session):
            self.session.undo()
            self.session.undo()
            with self.assertRaises(NothingLeft):
                self.session.undo()
        self.is_now({**self.before, ("main", 2): 2}, 2)


class AttemptedTest(unittest.TestCase, Refusals):
    def setUp(self):
        self.session = Session(small_program())
        self.session.guard("main", 0, 1)
        self.before = {**FIRST, ("main", 0): 1}
        self.changes = [("main", 1, 2), ("main", 4, 0), ("main", 1, 1)]
        self.behind = [{**self.before, ("main", 1): 2}, {("clock", 0): 2, ("main", 0): 1, ("main", 1): 2}, {("clock", 0): 2, ("main", 0): 1, ("main", 1): 1}]

    def is_now(self, guards, many):
        self.assertEqual(self.session.guarded().guards(), guards)
        self.assertEqual(len(self.session), many)

    def test_it_is_taken_back(self):
        for named in ({}, {"fast": False}):
            told = attempted(self.session, self.changes, **named)
            self.assertIs(type(told), list)
            self.assertEqual([program.guards() for program in told], self.behind)
            self.is_now(self.before, 1)
        self.assertEqual(self.changes, [("main", 1, 2), ("main", 4, 0), ("main", 1, 1)])
        told.clear()
        self.is_now(self.before, 1)

    def test_it_is_held_fast(self):
        told = attempted(changes=self.changes, fast=True, session=self.session)
        self.assertEqual(told[-1], self.session.guarded())
        self.is_now(self.behind[-1], 4)
        self.session.undo()
        self.is_now(self.behind[1], 3)

    def test_no_changes(self):
        for fast in (False, True):
            self.assertEqual(attempted(self.session, [], fast=fast), [])
            self.is_now(self.before, 1)

    def test_a_wrong_guard_among_the_changes(self):
        wrong = [
            (BadProcedure, "other", ("other", 0, 1)), (BadProcedure, None, (None, None, None)), (BadPoint, 5, ("main", 5, 1)),
            (BadPoint, -1, ("main", -1, 9)), (BadNumber, 3, ("main", 1, 3)), (BadNumber, True, ("main", 1, True)),
        ]
        for error, value, change in wrong:
            for fast in (False, True):
                for at in range(4):
                    changes = self.changes[:at] + [change] + self.changes[at:]
                    self.refuses(error, value, attempted, self.session, changes, fast=fast)
                    self.is_now(self.before, 1)

    def test_fast_is_given_by_name_alone(self):
        with self.assertRaises(TypeError):
            attempted(self.session, [], True)


class RandomTest(unittest.TestCase):
    def test_sessions_and_attempts_against_lists_of_programs(self):
        for seed in range(60):
            draw, program = random.Random(seed), few_program(seed)
            session, past = Session(program), [program]
            for _ in range(40):
                procedure = draw.choice(program.procedures())
                point, level = draw.randint(0, len(program[procedure])), draw.randint(0, program.levels)
                guards = past[-1].guards()
                guards.pop((procedure, point), None)
                if level:
                    guards[(procedure, point)] = level
                sort = draw.choice(["guard", "guard", "undo", "attempt", "fast"])
                if sort == "undo" and len(past) > 1:
                    session.undo()
                    past.pop()
                elif sort == "guard":
                    session.guard(procedure, point, level)
                    past.append(program.with_guards(guards))
                elif sort in ("attempt", "fast"):
                    told = attempted(session, [(procedure, point, level)], fast=sort == "fast")
                    self.assertEqual(told, [program.with_guards(guards)])
                    past.extend(told if sort == "fast" else [])
                self.assertEqual(session.guarded(), past[-1])
                self.assertEqual(len(session), len(past) - 1)


if __name__ == "__main__":
    unittest.main()
