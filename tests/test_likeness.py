"""[20], [1] (f): programs that are alike, held against all states of each activation."""

import random
import unittest

from maskedlevels.errors import BadArgument
from maskedlevels.likeness import alike, difference
from maskedlevels.programs import Program
from tests.plain import any_row
from tests.values import Refusals, odd_values, small_program
from tests.walks import Traced, all_stores, ends_in, walk

PROGRAMS = 600


def like_program(seed):
    """A small program, and one that is made of it by a small change."""
    draw = random.Random(seed)
    levels, size, names = draw.randint(1, 2), draw.randint(2, 3), ["main", "work", "sub"]
    procedures = {}
    for at, name in enumerate(names):
        end = draw.randint(1, 3)
        procedures[name] = [any_row(draw, ["c"], size, levels, names[at + 1:], end) for _ in range(end)]
    lines = {line: (draw.randint(1, levels), draw.choice(names[1:])) for line in "tu"[:draw.choice([1, 2, 2])]}
    guards = {}
    for _ in range(draw.randint(0, 3)):
        name = draw.choice(names)
        guards[(name, draw.randint(0, len(procedures[name])))] = draw.randint(1, levels)
    program = Program(levels, size, {"c": 0}, procedures, lines, guards=guards)
    name = draw.choice(names)
    sort = draw.choice(["guard", "guard", "row", "more", "name"])
    if sort == "guard":
        guards[(name, draw.randint(0, len(procedures[name])))] = draw.randint(1, levels)
    elif sort == "row":
        procedures[name][draw.randrange(len(procedures[name]))] = any_row(draw, ["c"], size, levels, [], len(procedures[name]))
    elif sort == "more":
        procedures[name].append(draw.choice([("keep",), ("look", "c"), ("mask", 0), ("set", "c", 0)]))
    else:
        lines = {line: (level, draw.choice(names[1:])) for line, (level, _) in lines.items()}
    return program, Program(levels, size, {"c": 0}, procedures, lines, guards=guards)


def form(program):
    levels = {line: program.line_of(line)[0] for line in program.lines()}
    return (program.cells(), program.size, program.levels, levels, program.first_store(), program.sections())


def shown_by(program, name, store):
    """All ends of an activation, and all stores with which lines can be served in it: pairs (sort, found)."""
    if name is None:
        beginning = (program.main, 0, store, 0)
    else:
        level, procedure = program.line_of(name)
        beginning = (procedure, level, store, level)
    states, player, found = walk(program, beginning, 10 ** 6), Traced(program), set()
    for state in states:
        player.stand(state)
        found.update((move[1], state[0]) for move in player.moves() if move[0] == "serve")
    for left, mask in ends_in(program, states):
        found.add((None, (left, mask) if name is None else left))
    return found


def all_differences(one, other):
    """All tuples that could be told."""
    if form(one) != form(other):
        return {("form",)}
    found = set()
    for name in [None, *one.lines()]:
        for store in [one.first_store()] if name is None else all_stores(one):
            unlike = shown_by(one, name, store) ^ shown_by(other, name, store)
            found.update((name, store, sort, what) for sort, what in unlike)
    return found


class Likes(Refusals):
    def told(self, one, other):
        """Holds both calls, both ways about, against all states; whether the programs are alike."""
        wanted = all_differences(one, other)
        for first, second in ((one, other), (other, one)):
            self.assertIs(alike(first, second), not wanted)
            if wanted:
                self.assertIn(difference(first, second), wanted)
            else:
                self.assertIsNone(difference(first, second))
        return not wanted


class WalkedTest(unittest.TestCase, Likes):
    def test_alike_and_difference(self):
        counts = {}
        for seed in range(PROGRAMS):
            one, other = like_program(seed)
            self.assertIs(alike(one, one), True)
            sort = "alike" if self.told(one, other) else difference(one, other)
            if sort != "alike":
                sort = sort[0] if sort[0] == "form" else (sort[0] is None, sort[2] is None)
            counts[sort] = counts.get(sort, 0) + 1
        self.assertEqual(len(counts), 6, counts)


class AlikeTest(unittest.TestCase, Likes):
    ROWS = {"main": [("set", "x", 1), ("raise", 1), ("call", "sub"), ("mask", 0)], "sub": [("add", "x", 1)], "put": [("copy", "y", "x")]}

    def made(self, levels=2, size=3, start=None, lines=None, guards=None, **rows):
        begun = {"x": 0, "y": 0} if start is None else start
        return Program(levels, size, begun, {**self.ROWS, **rows}, {"t": (1, "put")} if lines is None else lines, guards=guards)

    def test_with_itself_and_an_equal_one(self):
        program = self.made()
        self.assertIs(alike(program, program), True)
        self.assertIs(alike(one=program, other=self.made()), True)
        self.assertIs(self.told(program, self.made()), True)
        self.assertIs(self.told(small_program(), small_program()), True)

    def test_a_row_more_that_does_nothing(self):
        self.assertIs(self.told(self.made(), self.made(sub=[("add", "x", 1), ("look", "x")])), True)
        self.assertIs(self.told(self.made(), self.made(put=[("keep",), ("copy", "y", "x")])), True)
        # In the main one the line can be served once more there, but with no other store.
        self.assertIs(self.told(self.made(), self.made(main=[("look", "x"), *self.ROWS["main"]])), True)

    def test_other_names_and_orders_of_procedures(self):
        rows = {"a": [("set", "x", 1), ("raise", 1), ("call", "b"), ("mask", 0)], "b": [("add", "x", 1)], "c": [("copy", "y", "x")]}
        other = Program(2, 3, {"y": 0, "x": 0}, rows, {"t": (1, "c")}, "a")
        self.assertIs(self.told(self.made(), other), True)

    def test_called_rows_and_rows_in_place(self):
        main = [("set", "x", 1), ("raise", 1), ("add", "x", 1), ("mask", 0)]
        self.assertIs(self.told(self.made(), self.made(main=main)), True)

    def test_an_idle_guard_and_one_that_matters(self):
        # Under the mask no line of this level comes anyway.
        self.assertIs(self.told(self.made(), self.made(guards={("sub", 0): 1, ("main", 3): 1})), True)
        self.assertIs(self.told(self.made(), self.made(guards={("main", 1): 1})), False)
        self.assertEqual(difference(self.made(), self.made(guards={("main", 1): 1}))[0], None)
        self.assertIs(self.told(self.made(), self.made(guards={("put", 0): 2, ("put", 1): 2})), True)

    def test_first_things(self):
        others = [
            self.made(levels=1), self.made(size=4), self.made(start={"x": 0, "y": 1}), self.made(start={"x": 0, "y": 0, "z": 0}),
            self.made(lines={}), self.made(lines={"u": (1, "put")}), self.made(lines={"t": (2, "put")}),
            self.made(lines={"t": (1, "put"), "u": (1, "put")}), self.made(never=[("open", "s")]),
        ]
        for other in others:
            self.assertIs(self.told(self.made(), other), False)
            self.assertEqual(difference(self.made(), other), ("form",))
            self.assertEqual(difference(other, self.made()), ("form",))
        self.assertEqual(difference(self.made(never=[("open", "s")]), self.made(never=[("open", "r")])), ("form",))
        self.assertEqual(difference(self.made(never=[("open", "s")]), self.made(never=[("open", "s"), ("close", "r")])), ("form",))
        self.assertIs(self.told(self.made(never=[("open", "s")]), self.made(never=[("close", "s")])), True)

    def test_other_cells(self):
        one = Program(1, 2, {"x": 0}, {"main": []}, {})
        self.assertEqual(difference(one, Program(1, 2, {"y": 0}, {"main": []}, {})), ("form",))

    def test_which_procedure_serves_is_no_first_thing(self):
        one = self.made(more=[("copy", "y", "x")])
        other = self.made(more=[("copy", "y", "x")], lines={"t": (1, "more")})
        self.assertIs(self.told(one, other), True)

    def test_stores_to_which_no_run_comes(self):
        # x is never 2 when the line comes, but a line begun so leaves another store.
        put = [("if", "x", 2, 2), ("copy", "y", "x"), ("keep",)]
        one = Program(1, 3, {"x": 0, "y": 0}, {"main": [("set", "x", 1)], "put": [("copy", "y", "x")]}, {"t": (1, "put")})
        other = Program(1, 3, {"x": 0, "y": 0}, {"main": [("set", "x", 1)], "put": put}, {"t": (1, "put")})
        self.assertIs(self.told(one, other), False)
        self.assertEqual(difference(one, other)[:3], ("t", difference(one, other)[1], None))
        self.assertEqual(difference(one, other)[1][0], 2)

    def test_masks_at_the_end_of_the_main_one(self):
        one = Program(2, 2, {"x": 0}, {"main": [("keep",)]}, {})
        other = Program(2, 2, {"x": 0}, {"main": [("raise", 1)]}, {})
        self.assertIs(self.told(one, other), False)
        self.assertIn(difference(one, other), [(None, (0,), None, ((0,), 0)), (None, (0,), None, ((0,), 1))])

    def test_masks_at_the_end_of_a_line_do_not_matter(self):
        one = Program(2, 2, {"x": 0}, {"main": [], "put": [("keep",)]}, {"t": (1, "put")})
        other = Program(2, 2, {"x": 0}, {"main": [], "put": [("raise", 2)]}, {"t": (1, "put")})
        self.assertIs(self.told(one, other), True)

    def test_what_is_served_in_the_activation(self):
        rows = {"main": [("set", "x", 1), ("set", "x", 0)], "put": []}
        one = Program(1, 2, {"x": 0}, rows, {"t": (1, "put")})
        other = one.with_guards({("main", 1): 1})
        self.assertIs(self.told(one, other), False)
        self.assertEqual(difference(one, other), (None, (0,), "t", (1,)))
        self.assertEqual(difference(other, one), (None, (0,), "t", (1,)))

    def test_what_is_served_in_one_above(self):
        rows = {"main": [("keep",)], "low": [("set", "x", 1), ("set", "x", 0)], "high": []}
        one = Program(2, 2, {"x": 0}, rows, {"a": (1, "low"), "b": (2, "high")})
        other = one.with_guards({("low", 1): 2})
        self.assertIs(self.told(one, other), False)
        self.assertIn((None, (0,), "b", (1,)), all_differences(one, other))
        self.assertEqual(difference(one, other), (None, (0,), "b", (1,)))

    def test_what_is_served_in_what_is_called(self):
        rows = {"main": [("call", "sub")], "sub": [("set", "x", 1), ("set", "x", 0)], "put": []}
        one = Program(1, 2, {"x": 0}, rows, {"t": (1, "put")})
        self.assertEqual(difference(one, one.with_guards({("sub", 1): 1})), (None, (0,), "t", (1,)))

    def test_lines_alone_are_unlike(self):
        rows = {"main": [("raise", 2)], "low": [("set", "x", 1)], "high": []}
        guards = {("main", 0): 2}
        one = Program(2, 2, {"x": 0}, rows, {"a": (1, "low"), "b": (2, "high")}, guards=guards)
        other = one.with_guards({**guards, ("low", 1): 2})
        self.assertIs(self.told(one, other), False)
        self.assertEqual(difference(one, other)[0], "a")
        self.assertEqual(difference(one, other)[2], "b")

    def test_the_order_of_what_is_shown_does_not_matter(self):
        one = Program(1, 2, {"x": 0}, {"main": [("set", "x", 1), ("set", "x", 0)], "put": []}, {"t": (1, "put")})
        other = Program(1, 2, {"x": 0}, {"main": [("set", "x", 0), ("set", "x", 1), ("set", "x", 0)], "put": []}, {"t": (1, "put")})
        self.assertIs(self.told(one, other), True)

    def test_refuses(self):
        program = small_program()
        for told in (alike, difference):
            for value in odd_values():
                self.refuses(BadArgument, value, told, value, program)
                self.refuses(BadArgument, value, told, program, value)
                self.refuses(BadArgument, value, told, value, None)
            self.refuses(BadArgument, None, told, one=None, other="x")


if __name__ == "__main__":
    unittest.main()
