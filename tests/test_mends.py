"""[19], [1] (f): wishes, and the guards of a menu that mend, held against all moves of each choice."""

import itertools
import random
import unittest

from maskedlevels.claims import holds
from maskedlevels.errors import BadArgument, BadChange, BadGuards, BadWish
from maskedlevels.mends import Mend, is_met
from maskedlevels.piles import deepest
from maskedlevels.programs import Program
from maskedlevels.starving import starved
from maskedlevels.stretches import longest
from tests.rounds import Runs, held_program, run_programs, waiting_program
from tests.test_claims import claims_about, is_against
from tests.values import Refusals, odd_values, small_program
from tests.walks import few_program

PROGRAMS = 60


def wishes_about(draw, program, runs):
    """Wishes of all sorts about a program."""
    found = {entry: 0 for entry in runs.entries()}
    wishes = claims_about(draw, program, found)
    wishes.extend(("served", line) for line in program.lines())
    for level in range(1, program.levels + 1):
        wishes.extend(("short", level, many) for many in range(5))
    wishes.extend(("shallow", many) for many in range(6))
    return wishes


def is_met_by(runs, wish):
    """Whether a wish is met, by all states of a program."""
    program = runs.program
    if wish[0] == "served":
        return not runs.starved(program.line_of(wish[1])[0])
    if wish[0] == "short":
        many = runs.longest(wish[1])
        return many is not None and many <= wish[2]
    if wish[0] == "shallow":
        return runs.deepest({}) <= wish[1]
    return not any(is_against(program, wish, entry) for entry in runs.entries())


def program_behind(program, menu, choice):
    """The program of a choice, worked out by hand."""
    guards = program.guards()
    for procedure, point, level in [menu[index] for index in choice]:
        guards[procedure, point] = max(level, guards.get((procedure, point), 0))
    return program.with_guards(guards)


def choices_of(many):
    return [choice for size in range(many + 1) for choice in itertools.combinations(range(many), size)]


def starved_by(runs):
    return {line for line in runs.program.lines() if runs.starved(runs.program.line_of(line)[0])}


class WalkedTest(unittest.TestCase):
    def test_wishes(self):
        counts = {}
        for made in (few_program, held_program, waiting_program):
            for seed, (program, runs) in enumerate(run_programs(PROGRAMS, made, 500)):
                draw = random.Random(seed)
                wishes = wishes_about(draw, program, runs)
                for wish in draw.sample(wishes, min(25, len(wishes))):
                    wanted = is_met_by(runs, wish)
                    self.assertIs(is_met(program, wish), wanted)
                    counts[wish[0], wanted] = counts.get((wish[0], wanted), 0) + 1
        self.assertEqual(len(counts), 16)
        self.assertGreater(min(counts.values()), 2, counts)

    def test_choices(self):
        counts = {"some": 0, "none": 0, "all": 0, "greater": 0, "starving": 0}
        for made in (few_program, held_program, waiting_program):
            for seed, (program, runs) in enumerate(run_programs(PROGRAMS, made, 200)):
                draw = random.Random(seed)
                spots = [(name, point) for name in program.procedures() for point in range(len(program[name]) + 1)]
                menu = [(*draw.choice(spots), draw.randint(1, program.levels)) for _ in range(draw.randint(0, 4))]
                wishes = wishes_about(draw, program, runs)
                # What only some choice meets is asked for the most.
                full = Runs(program_behind(program, menu, range(len(menu))))
                mended = [wish for wish in wishes if is_met_by(full, wish) and not is_met_by(runs, wish)]
                wishes = draw.sample(mended, min(len(mended), draw.randint(0, 2))) or draw.sample(wishes, draw.randint(0, 1))
                self.holds_mend(program, menu, wishes, counts)
        self.assertGreater(min(counts.values()), 3, counts)

    def holds_mend(self, program, menu, wishes, counts):
        """Holds a mend against all states of the program behind each choice."""
        mend = Mend(program, menu, wishes)
        self.assertEqual(len(mend), len(menu))
        mending = []
        for choice in choices_of(len(menu)):
            behind = program_behind(program, menu, choice)
            runs = Runs(behind)
            self.assertEqual(mend.behind(choice), behind)
            unmet = [index for index, wish in enumerate(wishes) if not is_met_by(runs, wish)]
            self.assertEqual(mend.unmet(choice), unmet)
            if choice == ():
                before = starved_by(runs)
            if not unmet and starved_by(runs) <= before:
                mending.append(choice)
            counts["starving"] += not unmet and not starved_by(runs) <= before
        self.assertEqual(list(mend.mending()), mending)
        least = [choice for choice in mending if not any(set(other) < set(choice) for other in mending)]
        self.assertEqual(mend.least(), least)
        counts["all"] += len(mending) == 2 ** len(menu)
        counts["none"] += not mending
        counts["some"] += 0 < len(mending) < 2 ** len(menu)
        counts["greater"] += any(least) and len(least) < len(mending)


class WishesTest(unittest.TestCase):
    def setUp(self):
        rows = {
            "main": [("look", "x"), ("raise", 1), ("open", "s"), ("call", "sub"), ("close", "s"), ("mask", 0)], "sub": [("keep",)],
            "put": [("set", "x", 1)], "spin": [("open", "s"), ("close", "s"), ("raise", 2)],
        }
        self.program = Program(2, 3, {"x": 0}, rows, {"t": (1, "put"), "u": (2, "spin")})

    def told(self, met, unmet):
        for wish in met:
            self.assertIs(is_met(self.program, wish), True, wish)
        for wish in unmet:
            self.assertIs(is_met(program=self.program, wish=wish), False, wish)

    def test_claims(self):
        place = ("put", 1, 0, (1, 0), 1, 1)
        self.told([("never", place[:3] + ((0, 0), 1, 1))], [("never", place)])
        self.told([("unseen", "main", 0, 2)], [("unseen", "main", 0, value) for value in (0, 1)])
        self.told([], [("apart", "s")])
        self.told([("clean", "main"), ("clean", "sub")], [])
        self.told([("bound", "main", 1), ("bound", "spin", 2)], [("bound", "main", 0), ("bound", "spin", 1)])
        self.program = self.program.with_guards({("main", point): 2 for point in (3, 4)} | {("sub", 0): 2, ("sub", 1): 2})
        self.told([("apart", "s")], [])

    def test_served(self):
        self.told([("served", "t"), ("served", "u")], [])
        self.program = self.program.with_guards({("main", 6): 1})
        self.told([("served", "u")], [("served", "t")])

    def test_short(self):
        self.assertEqual([longest(self.program, level) for level in (1, 2)], [5, 3])
        self.told([("short", 1, 5), ("short", 1, 6), ("short", 2, 3), ("short", 2, 10 ** 20)], [("short", 1, 4), ("short", 1, 0), ("short", 2, 2)])

    def test_short_without_a_longest_one(self):
        self.program = Program(1, 2, {"x": 0}, {"main": [("raise", 1), ("go", 1)]}, {})
        self.told([], [("short", 1, many) for many in (0, 1, 10 ** 20)])

    def test_shallow(self):
        self.assertEqual(deepest(self.program), 3)
        self.told([("shallow", 3), ("shallow", 4), ("shallow", 10 ** 20)], [("shallow", 2), ("shallow", 0)])


class MendTest(unittest.TestCase):
    """A program that reads two halves, and a line that writes them."""

    def setUp(self):
        rows = {"main": [("look", "x"), ("keep",), ("look", "x")], "put": [("set", "x", 1)]}
        self.program = Program(2, 2, {"x": 0}, rows, {"t": (1, "put"), "u": (2, "put")}, guards={("main", 1): 1})
        self.unseen = [("unseen", "main", 2, 1), ("unseen", "main", 0, 1)]

    def test_an_empty_menu(self):
        mend = Mend(self.program, [], [])
        self.assertEqual((len(mend), list(mend.mending()), mend.least(), mend.unmet(())), (0, [()], [()], []))
        mend = Mend(self.program, [], self.unseen[:1])
        self.assertEqual((list(mend.mending()), mend.least(), mend.unmet(())), ([], [], [0]))

    def test_six_entries_and_eight_wishes(self):
        menu = [("main", 0, 1), ("main", 0, 2), ("main", 1, 2), ("main", 2, 1), ("main", 2, 2), ("put", 0, 1)]
        wishes = self.unseen + [("bound", "main", 0), ("clean", "put"), ("served", "t"), ("served", "u"), ("shallow", 3), ("short", 2, 1)]
        mend = Mend(program=self.program, menu=menu, wishes=wishes)
        self.assertEqual(len(mend), 6)
        self.assertEqual(mend.unmet(()), [0, 1])
        self.assertEqual(mend.unmet((1, 2, 4)), [7])
        wanted = [choice for choice in choices_of(6) if {1, 2, 4} <= set(choice)]
        self.assertEqual(list(Mend(self.program, menu, wishes[:7]).mending()), wanted)
        self.assertEqual(Mend(self.program, menu, wishes[:7]).least(), [(1, 2, 4)])

    def test_behind(self):
        mend = Mend(self.program, [("main", 0, 1), ("main", 0, 2), ("main", 1, 2), ("main", 3, 1)], [])
        self.assertEqual(mend.behind(()), self.program)
        self.assertEqual(mend.behind((0,)).guards(), {("main", 1): 1, ("main", 0): 1})
        self.assertEqual(mend.behind(choice=(0, 1)).guards(), {("main", 1): 1, ("main", 0): 2})
        self.assertEqual(mend.behind((2,)).guards(), {("main", 1): 2})
        self.assertEqual(mend.behind((0, 1, 2, 3)).guards(), {("main", 1): 2, ("main", 0): 2, ("main", 3): 1})
        self.assertEqual(self.program.guards(), {("main", 1): 1})

    def test_the_greater_one_counts(self):
        program = self.program.with_guards({("main", 1): 2})
        mend = Mend(program, [("main", 1, 1), ("main", 2, 2), ("main", 2, 1)], [])
        self.assertEqual(mend.behind((0,)), program)
        self.assertEqual(mend.behind((1, 2)).guards(), {("main", 1): 2, ("main", 2): 2})

    def test_two_equal_entries(self):
        menu = [("main", 2, 2)] * 2
        self.assertEqual(Mend(self.program.with_guards({("main", 0): 2, ("main", 1): 2}), menu, self.unseen).least(), [(0,), (1,)])

    def test_the_order_by_size_and_then_ascending(self):
        mend = Mend(self.program, [("put", 1, 1)] * 3, [])
        self.assertEqual(list(mend.mending()), [(), (0,), (1,), (2,), (0, 1), (0, 2), (1, 2), (0, 1, 2)])
        self.assertEqual(mend.least(), [()])

    def test_least_ones_of_unlike_sizes(self):
        program = self.program.with_guards({})
        menu = [("main", 0, 2), ("main", 1, 2), ("main", 2, 2), ("main", 1, 1)]
        wishes = [("never", ("put", 0, 0, (0,), 2, 2)), ("unseen", "main", 2, 1)]
        mend = Mend(program, menu, wishes)
        self.assertEqual(mend.least(), [])
        mend = Mend(program, menu, [("unseen", "main", 2, 1)])
        self.assertEqual(mend.least(), [(0, 1, 2)])
        self.assertEqual(list(mend.mending()), [(0, 1, 2), (0, 1, 2, 3)])
        rows = {"main": [("either", 3), ("look", "x"), ("go", 3)], "put": [("set", "x", 1)]}
        other = Program(1, 2, {"x": 0}, rows, {"t": (1, "put")}, guards={("main", 0): 1})
        wish = ("never", ("main", 1, 0, (1,), 0, 0))
        self.assertEqual(Mend(other, [("main", 3, 1), ("main", 1, 1), ("main", 2, 1)], [wish]).least(), [(1,)])

    def test_a_choice_that_starves_anew_mends_not(self):
        menu = [("main", 3, 1), ("main", 3, 2), ("main", 2, 2)]
        mend = Mend(self.program, menu, [])
        self.assertEqual([starved(mend.behind((index,))) for index in range(3)], [["t"], ["t", "u"], []])
        self.assertEqual(list(mend.mending()), [(), (2,)])
        self.assertEqual(mend.unmet((0, 1)), [])

    def test_what_was_starved_may_be_starved(self):
        program = self.program.with_guards({("main", 3): 1})
        mend = Mend(program, [("main", 3, 1), ("main", 3, 2), ("put", 0, 2)], [])
        self.assertEqual(starved(program), ["t"])
        self.assertEqual(list(mend.mending()), [(), (0,), (2,), (0, 2)])

    def test_a_greater_choice_may_mend_where_a_part_does(self):
        wish = ("unseen", "main", 0, 1)
        mend = Mend(self.program, [("main", 0, 2), ("put", 1, 2)], [wish])
        self.assertEqual(list(mend.mending()), [(0,), (0, 1)])
        self.assertEqual(mend.least(), [(0,)])

    def test_a_greater_choice_may_not_mend_where_a_part_does(self):
        mend = Mend(self.program, [("main", 0, 2), ("main", 3, 1)], [("unseen", "main", 0, 1)])
        self.assertEqual(list(mend.mending()), [(0,)])
        self.assertEqual(mend.least(), [(0,)])

    def test_wishes_of_one_choice(self):
        mend = Mend(self.program, [("main", 0, 2), ("main", 2, 2), ("main", 1, 2)], self.unseen + [("shallow", 2), self.unseen[0]])
        self.assertEqual(mend.unmet(()), [0, 1, 2, 3])
        self.assertEqual(mend.unmet(choice=(0,)), [0, 2, 3])
        self.assertEqual(mend.unmet((0, 1, 2)), [2])
        self.assertEqual(list(mend.mending()), [])

    def test_what_was_given_can_be_changed_later(self):
        menu, wishes = [("main", 0, 2), ("put", 0, 1)], [("unseen", "main", 0, 1)]
        mend = Mend(self.program, menu, wishes)
        told = mend.mending()
        menu.clear()
        wishes.append(("shallow", 0))
        self.assertEqual((len(mend), mend.least(), mend.unmet((1,))), (2, [(0,)], [0]))
        self.assertEqual(next(told), (0,))
        mend.least().clear()
        mend.unmet((1,)).clear()
        self.assertEqual((mend.least(), mend.unmet((1,)), list(told)), ([(0,)], [0], [(0, 1)]))

    def test_the_same_is_told_again(self):
        mend = Mend(self.program, [("main", 0, 2), ("main", 2, 2), ("main", 1, 2)], self.unseen)
        one, other = mend.mending(), mend.mending()
        self.assertEqual(list(one), [(0, 1, 2)])
        self.assertEqual(list(other), [(0, 1, 2)])
        self.assertEqual(mend.least(), mend.least())


class RefusedTest(unittest.TestCase, Refusals):
    def setUp(self):
        self.program = small_program(procedures={
            "main": [("look", "x"), ("open", "s"), ("set", "x", 1)], "clock": [("look", "y")], "bell": [],
        }, guards=None)

    def wrong_wishes(self):
        place = ("main", 0, 0, (0, 1, 0), 0, 0)
        wishes = [
            ("never",), ("never", place[:5]), ("never", list(place)), ("never", place, place), ("never", ("main", 4) + place[2:]),
            ("unseen", "main", 0), ("unseen", "main", 1, 0), ("unseen", "main", 0, 3), ("unseen", "main", 0, -1),
            ("unseen", "main", 0, True), ("unseen", "other", 0, 0), ("unseen", "main", False, 0), ("apart", "x"), ("apart", "r"), ("apart",),
            ("clean", "tick"), ("clean", "main", 0), ("bound", "main"), ("bound", "main", 3), ("bound", "main", -1), ("bound", "main", True),
            ("served", "main"), ("served",), ("served", "tick", 1), ("served", ["tick"]), ("short", 0, 1), ("short", 3, 1), ("short", 1),
            ("short", 1, -1), ("short", 1, True), ("short", True, 1), ("short", 1, 1, 1), ("short", 1, 1.0), ("short", "1", 1),
            ("shallow",), ("shallow", -1), ("shallow", True), ("shallow", False), ("shallow", 1, 1), ("shallow", "1"), ("shallow", 1.0),
            ["shallow", 3], "shallow", ("deep", 3), ("kept", "main"), (), ("served", None), ("shallow", None), ("short", None, None),
        ]
        for odd in odd_values():
            wishes.extend([odd, (odd,), (odd, 1), (odd, "tick"), ("served", odd), ("short", odd, 1)])
            if type(odd) is not int or odd < 0:
                wishes.extend([("shallow", odd), ("short", 1, odd)])
        return wishes

    def test_is_met(self):
        for value in odd_values():
            self.refuses(BadArgument, value, is_met, value, ("shallow", 3))
            self.refuses(BadArgument, value, is_met, value, None)
        for value in self.wrong_wishes():
            self.refuses(BadWish, value, is_met, self.program, value)
        for wish in [("short", 2, 0), ("shallow", 0), ("served", "tick"), ("bound", "main", 0), ("clean", "bell")]:
            self.assertIn(is_met(self.program, wish), (True, False))

    def test_mends(self):
        for value in odd_values():
            self.refuses(BadArgument, value, Mend, value, [], [])
            self.refuses(BadArgument, value, Mend, value, None, None)
        guard, wish = ("main", 3, 2), ("shallow", 3)
        wrong = [
            ("main", 4, 1), ("main", -1, 1), ("other", 0, 1), ("tick", 0, 1), ("main", 0, 0), ("main", 0, 3), ("main", 0, True),
            ("main", True, 1), ("main", 0), ("main", 0, 1, 1), ["main", 0, 1], ("main", "0", 1), ("main", 0, "1"), ("bell", 1, 1), (), None,
        ]
        wrong.extend(odd_values())
        for odd in odd_values():
            wrong.extend([(odd, 0, 1), ("main", odd, 1), ("main", 0, odd)])
        menus = [[guard, value] for value in wrong] + [[guard] * 7, (guard,), {guard: 1}, "menu", {("main", 0): 1}]
        for menu in menus + [odd for odd in odd_values() if not (type(odd) is list and not odd)]:
            self.refuses(BadGuards, menu, Mend, self.program, menu, [wish])
            self.refuses(BadGuards, menu, Mend, self.program, menu, None)
        wishes = [[wish, value] for value in self.wrong_wishes()] + [[wish] * 9, (wish,), {wish: 1}, wish]
        for value in wishes + [odd for odd in odd_values() if not (type(odd) is list and not odd)]:
            self.refuses(BadWish, value, Mend, self.program, [guard], value)
        self.assertEqual(len(Mend(self.program, [guard] * 6, [wish] * 8)), 6)

    def test_choices(self):
        mend = Mend(self.program, [("main", 0, 1), ("main", 1, 1), ("clock", 1, 2)], [("shallow", 3)])
        wrong = [[0], (1, 0), (0, 0), (0, 1, 1), (3,), (-1,), (0, 3), (True,), (0, True), (0, 1.0), ("0",), (None,), 0, "", range(2), [], {0: 1}, (0, 2, 1)]
        for value in wrong + [odd for odd in odd_values() if type(odd) is not tuple]:
            for told in (mend.behind, mend.unmet):
                self.refuses(BadChange, value, told, value)
        empty = Mend(self.program, [], [])
        for value in [(0,), (-1,), []]:
            self.refuses(BadChange, value, empty.behind, value)
        self.assertEqual(mend.behind((0, 1, 2)).guards(), {("main", 0): 1, ("main", 1): 1, ("clock", 1): 2})

    def test_claims_and_wishes(self):
        for wish in [("bound", "main", 0), ("clean", "main"), ("unseen", "main", 0, 2)]:
            self.assertIs(is_met(self.program, wish), holds(self.program, wish))


if __name__ == "__main__":
    unittest.main()
