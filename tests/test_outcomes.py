"""[9], [10], [1]: what frames and lines make of stores, and boards that run within the relations."""

import random
import unittest

from maskedlevels.errors import AtRest, BadArgument, BadLine, BadMask, BadNumber, BadStore
from maskedlevels.machine import Board
from maskedlevels.programs import Program
from maskedlevels.reached import places
from maskedlevels.relations import Relation, between, outcomes, relation_of, served
from tests.plain import any_program
from tests.values import odd_values, small_program
from tests.walks import Traced, all_stores, any_beginning, any_store, ends_in, few_program, in_order, walk

PROGRAMS = 250


def walked_outcomes(program, beginning):
    """The outcomes of a beginning by going through all states; None if they are many."""
    states = walk(program, beginning)
    return None if states is None else in_order(ends_in(program, states))


def walked_lefts(program, line, store):
    level, procedure = program.line_of(line)
    found = walked_outcomes(program, (procedure, level, store, level))
    return None if found is None else in_order([left for left, _ in found])


class OutcomesTest(unittest.TestCase):
    def test_outcomes_of_many_programs_are_those_of_all_states(self):
        told = 0
        for seed in range(PROGRAMS):
            program, draw = few_program(seed), random.Random(seed)
            for beginning in [any_beginning(draw, program) for _ in range(4)]:
                wanted = walked_outcomes(program, beginning)
                if wanted is not None:
                    self.assertEqual(outcomes(program, beginning), wanted)
                    told += len(wanted)
        self.assertGreater(told, 2 * PROGRAMS)

    def test_each_beginning_of_a_program(self):
        program = small_program()
        for procedure in program.procedures():
            for floor in range(3):
                for mask in range(floor, 3):
                    for store in all_stores(program):
                        beginning = (procedure, floor, store, mask)
                        wanted = walked_outcomes(program, beginning)
                        self.assertEqual(outcomes(program=program, beginning=beginning), wanted)

    def test_lines_at_the_end_of_a_frame_count(self):
        rows = {"main": [("call", "sub")], "sub": [], "add": [("add", "x", 1)]}
        program = Program(2, 4, {"x": 0}, rows, {"t": (2, "add")})
        every = [((value,), 0) for value in range(4)]
        self.assertEqual(outcomes(program, ("sub", 0, (1,), 0)), every)
        self.assertEqual(outcomes(program, ("main", 0, (3,), 0)), every)
        self.assertEqual(outcomes(program, ("sub", 0, (1,), 2)), [((1,), 2)])
        self.assertEqual(outcomes(program, ("add", 2, (1,), 2)), [((2,), 2)])
        kept = program.with_guards({("sub", 0): 2})
        self.assertEqual(outcomes(kept, ("sub", 0, (1,), 0)), [((1,), 0)])
        self.assertEqual(outcomes(kept, ("main", 0, (1,), 0)), every)

    def test_masks_behind_calls_and_floors(self):
        rows = {"main": [("call", "sub"), ("set", "x", 1)], "sub": [("raise", 2)], "low": [("mask", 0)], "put": [("set", "x", 2)]}
        program = Program(3, 3, {"x": 0}, rows, {"t": (2, "put")})
        self.assertEqual(outcomes(program, ("main", 0, (0,), 0)), [((1,), 2)])
        self.assertEqual(outcomes(program, ("main", 0, (0,), 3)), [((1,), 3)])
        self.assertEqual(outcomes(program, ("low", 0, (0,), 3)), [((0,), 0), ((2,), 0)])
        self.assertEqual(outcomes(program, ("low", 1, (0,), 3)), [((0,), 1), ((2,), 1)])
        self.assertEqual(outcomes(program, ("low", 2, (0,), 3)), [((0,), 2)])

    def test_a_frame_keeps_nothing_at_its_beginning(self):
        program = Program(2, 2, {"x": 0}, {"main": [("give",)]}, {})
        self.assertEqual(outcomes(program, ("main", 0, (1,), 2)), [((1,), 0)])
        self.assertEqual(outcomes(program, ("main", 1, (1,), 2)), [((1,), 1)])

    def test_what_never_ends_has_none(self):
        rows = {"main": [("call", "ring")], "ring": [("go", 0)], "end": [], "half": [("if", "x", 1, 2), ("go", 1)]}
        program = Program(1, 2, {"x": 0}, rows, {"t": (1, "ring")})
        for name, wanted in [("main", []), ("ring", []), ("end", [((0,), 0)]), ("half", [])]:
            self.assertEqual(outcomes(program, (name, 0, (0,), 0)), wanted)
        self.assertEqual(outcomes(program, ("half", 0, (1,), 0)), [((1,), 0)])
        self.assertEqual(served(program, "t", (0,)), [])
        self.assertEqual(relation_of(program, "t", [(0,), (1,)]), Relation([]))

    def test_what_it_refuses(self):
        program = small_program()
        good = ("main", 1, (0, 0, 0), 2)
        outcomes(program, good)
        wrong = [("main", 1, (0, 0, 0), 0), ("main", 3, (0, 0, 0), 3), ("main", 0, (0, 0), 0), ("other", 0, (0, 0, 0), 0),
                 ("main", 0, (0, 0, 0), 3), ("main", -1, (0, 0, 0), 0), ("main", 0, (3, 0, 0), 0), good + (0,), good[:3],
                 list(good), ("main", 0, [0, 0, 0], 0), ("main", 0, (0, 0, 2), 0), ("tick", 0, (0, 0, 0), 0)]
        for odd in odd_values():
            wrong.extend(good[:at] + (odd,) + good[at + 1:] for at in range(4))
        for value in wrong + odd_values():
            with self.assertRaises(BadArgument) as caught:
                outcomes(program, value)
            self.assertIs(caught.exception.value, value)
            self.assertEqual(outcomes(program, ("bell", 2, (0, 0, 0), 2)), [((0, 0, 0), 2)])
        for value in odd_values():
            with self.assertRaises(BadArgument) as caught:
                outcomes(value, None)
            self.assertIs(caught.exception.value, value)


class LinesTest(unittest.TestCase):
    def test_served_and_relation_of_many_programs(self):
        for seed in range(PROGRAMS):
            program, draw = few_program(seed), random.Random(seed)
            line = draw.choice(program.lines())
            stores = [any_store(draw, program) for _ in range(4)]
            wanted = {store: walked_lefts(program, line, store) for store in stores}
            if None in wanted.values():
                continue
            for store in stores:
                self.assertEqual(served(program, line, store), wanted[store])
            pairs = {(store, left) for store in stores for left in wanted[store]}
            for given in (stores, tuple(stores), stores + stores):
                self.assertEqual(relation_of(program, line, given).pairs(), in_order(pairs))

    def test_between_of_many_programs(self):
        for seed in range(PROGRAMS):
            program, draw = few_program(seed), random.Random(seed)
            store = any_store(draw, program)
            for level in range(program.levels + 1):
                lines = [line for line in program.lines() if program.line_of(line)[0] > level]
                found, todo = {store}, [store]
                for here in todo:
                    lefts = [walked_lefts(program, line, here) for line in lines]
                    if None in lefts:
                        break
                    new = {left for row in lefts for left in row} - found
                    found |= new
                    todo.extend(new)
                else:
                    self.assertEqual(between(program, level, store), in_order(found))

    def test_between_is_what_a_program_at_rest_can_have(self):
        for seed in range(PROGRAMS):
            program = few_program(seed)
            for level in range(program.levels + 1):
                guards = {("work", point): program.guard_at("work", point) for point in range(len(program["work"]) + 1)}
                guards = {spot: guard for spot, guard in guards.items() if guard > 0}
                if level > 0:
                    guards[("rest", 0)] = level
                rows = {"rest": [], "work": program["work"], "sub": program["sub"]}
                lines = {line: (program.line_of(line)[0], "work") for line in program.lines()}
                start = dict(zip(program.cells(), program.first_store()))
                resting = Program(program.levels, program.size, start, rows, lines, "rest", guards)
                wanted = in_order([place[3] for place in places(resting) if place[0] == "rest"])
                self.assertEqual(between(resting, level, resting.first_store()), wanted)

    def test_between_at_each_level(self):
        rows = {"main": [], "one": [("set", "x", 1)], "two": [("if", "x", 0, 2), ("set", "x", 2)], "three": [("set", "x", 3)]}
        program = Program(3, 4, {"x": 0}, rows, {"a": (1, "one"), "b": (2, "two"), "c": (3, "three")})
        told = [between(program, level, (0,)) for level in range(4)]
        self.assertEqual(told, [[(0,), (1,), (2,), (3,)], [(0,), (2,), (3,)], [(0,), (3,)], [(0,)]])
        self.assertEqual(between(store=(1,), level=1, program=program), [(1,), (2,), (3,)])
        self.assertEqual(served(program, "b", (0,)), [(0,), (2,), (3,)])
        self.assertEqual(served(program, "c", (0,)), [(3,)])

    def test_lines_serve_lines_on_four_levels(self):
        rows = {"main": [], "a": [("set", "x", 1)], "b": [("if", "x", 1, 2), ("go", 3), ("set", "y", 1)],
                "c": [("if", "y", 1, 2), ("go", 3), ("set", "z", 1)], "d": [("if", "z", 1, 2), ("go", 3), ("set", "w", 1)]}
        lines = {name: (level, name) for level, name in enumerate("abcd", 1)}
        program = Program(4, 2, {"w": 0, "x": 0, "y": 0, "z": 0}, rows, lines)
        every = [(0, 1, 0, 0), (0, 1, 1, 0), (0, 1, 1, 1), (1, 1, 1, 1)]
        self.assertEqual(served(program, "a", (0, 0, 0, 0)), every)
        self.assertEqual(served(program, "b", (0, 0, 0, 0)), [(0, 0, 0, 0)])
        self.assertEqual(served(program, "c", (0, 1, 1, 0)), [(0, 1, 1, 1), (1, 1, 1, 1)])
        self.assertEqual(between(program, 2, (0, 1, 1, 0)), [(0, 1, 1, 0), (0, 1, 1, 1), (1, 1, 1, 1)])

    def test_what_they_refuse_in_their_order(self):
        program = small_program()
        store = (0, 0, 0)
        for value in odd_values() + ["main", "clock", "other"]:
            with self.assertRaises(BadLine) as caught:
                served(program, value, None)
            self.assertIs(caught.exception.value, value)
            with self.assertRaises(BadLine) as caught:
                relation_of(program, value, None)
            self.assertIs(caught.exception.value, value)
        for value in odd_values() + [3, -1, "tick"]:
            with self.assertRaises(BadMask) as caught:
                between(program, value, None)
            self.assertIs(caught.exception.value, value)
        for value in odd_values() + [(0, 0), (3, 0, 0), (0, 0, 2), [0, 0, 0], (0, 0, 0, 0), (0, True, 0)]:
            for told in (lambda: served(program, "tick", value), lambda: between(program, 0, value)):
                with self.assertRaises(BadStore) as caught:
                    told()
                self.assertIs(caught.exception.value, value)
            for stores in ([value], (value,), [store, value, None]):
                with self.assertRaises(BadStore) as caught:
                    relation_of(program, "tick", stores)
                self.assertIs(caught.exception.value, value)
            if type(value) not in (list, tuple):
                with self.assertRaises(BadArgument) as caught:
                    relation_of(program, "tick", value)
                self.assertIs(caught.exception.value, value)
            for told in (served, between, relation_of):
                with self.assertRaises(BadArgument) as caught:
                    told(value, None, None)
                self.assertIs(caught.exception.value, value)
        self.assertEqual(relation_of(program, "ring", []), Relation([]))
        self.assertEqual(relation_of(stores=(store, store), line="ring", program=program), Relation([(store, store)]))


class BoardsTest(unittest.TestCase):
    def check(self, program, known, beginning, outcome):
        if beginning not in known:
            known[beginning] = outcomes(program, beginning)
        self.assertIn(outcome, known[beginning])

    def test_each_run_of_a_board_is_one_of_the_relations(self):
        ended = 0
        for seed in range(150):
            draw, program = random.Random(seed), few_program(seed)
            board, player, known = Board(program), Traced(program), {}
            for _ in range(40):
                if draw.random() < 0.4:
                    board.arrive(draw.choice(program.lines()))
                before = player.state()[1]
                entry = player.entry()
                if entry[1] == len(program[entry[0][0]]):
                    self.check(program, known, entry[0], entry[3:])
                    ended += 1
                try:
                    move = board.step(draw.choice([0, 0, 1, 2]))
                except (AtRest, BadNumber):
                    continue
                player.make(move)
                if len(player.pile) < len(before):
                    line = [name for name in program.lines() if program.line_of(name) == (entry[0][1], entry[0][0])][0]
                    self.assertIn((entry[0][2], board.store), relation_of(program, line, [entry[0][2]]))
                    self.assertIn(board.store, between(program, entry[0][1] - 1, entry[0][2]))
        self.assertGreater(ended, 300)

    def test_boards_of_greater_programs(self):
        for seed in range(40):
            draw, program = random.Random(seed), any_program(seed)
            if program.size ** len(program.cells()) > 30:
                continue
            board, player, known = Board(program), Traced(program), {}
            for _ in range(40):
                if draw.random() < 0.4:
                    board.arrive(draw.choice(program.lines()))
                try:
                    player.make(board.step(draw.choice([0, 0, 1, 2])))
                except (AtRest, BadNumber):
                    continue
                entry = player.entry()
                if entry[1] == len(program[entry[0][0]]):
                    self.check(program, known, entry[0], entry[3:])


if __name__ == "__main__":
    unittest.main()
