"""[12]: tables of entries, held against their rules word by word."""

import random
import unittest

from maskedlevels.errors import BadArgument
from maskedlevels.programs import Program
from maskedlevels.tables import is_table, joined, more_of, table_of
from tests.closing import asked, closure
from tests.values import odd_values, small_program
from tests.walks import any_entry, any_store, few_program, in_order, walked_programs

PROGRAMS = 150


def bent(draw, program, entry):
    """The entry with another value in one part; it may be none of the program any more."""
    beginning, point, kept, store, mask = entry
    procedure, floor, first, least = beginning
    return draw.choice([
        ((draw.choice(program.procedures()), floor, first, least), point, kept, store, mask),
        ((procedure, draw.randint(0, program.levels), first, least), point, kept, store, mask),
        ((procedure, floor, any_store(draw, program), least), point, kept, store, mask),
        ((procedure, floor, first, draw.randint(0, program.levels)), point, kept, store, mask),
        (beginning, draw.randint(0, 6), kept, store, mask), (beginning, point, draw.randint(0, 4), store, mask),
        (beginning, point, kept, any_store(draw, program), mask), (beginning, point, kept, store, draw.randint(0, 4)),
    ])


def is_entry(program, entry):
    """Whether a tuple of the right form is an entry of the program, word by word."""
    (procedure, floor, first, least), point, kept, store, mask = entry
    return (
        point <= len(program[procedure]) and kept <= program.levels
        and floor <= least <= program.levels and floor <= mask <= program.levels
    )


def is_closed(program, table):
    return all(is_entry(program, entry) for entry in table) and asked(program, set(table)) <= set(table)


class WalkedTest(unittest.TestCase):
    """The tables of many programs."""

    @classmethod
    def setUpClass(cls):
        cls.programs = [(program, in_order(entries)) for program, entries in walked_programs(PROGRAMS)]

    def test_the_least_table_is_where_the_frames_of_runs_can_be(self):
        for program, table in self.programs:
            self.assertEqual(table_of(program), table)
            self.assertEqual(closure(program), set(table))

    def test_it_is_closed_in_any_form(self):
        for seed, (program, table) in enumerate(self.programs):
            mixed = random.Random(seed).sample(table, len(table))
            for value in (table, tuple(table), mixed, tuple(mixed), mixed + mixed, tuple(table + mixed[:3])):
                self.assertIs(is_table(program, value), True)
                self.assertEqual(more_of(program, value), [])

    def test_an_entry_left_out(self):
        for seed, (program, table) in enumerate(self.programs):
            for entry in random.Random(seed).sample(table, min(8, len(table))):
                value = [other for other in table if other != entry]
                self.assertIs(is_table(program, value), False)
                self.assertEqual(more_of(program, value), in_order(asked(program, value) - set(value)))
                self.assertIn(entry, more_of(program, value))

    def test_an_entry_put_in(self):
        kinds = set()
        for seed, (program, table) in enumerate(self.programs):
            draw = random.Random(seed)
            for entry in [any_entry(draw, program) for _ in range(6)]:
                value = table + [entry]
                kinds.add(is_table(program, value))
                self.assertIs(is_table(program, value), is_closed(program, value))
                self.assertEqual(more_of(program, value), in_order(asked(program, value) - set(value)))
        self.assertEqual(kinds, {True, False})

    def test_one_part_bent(self):
        for seed, (program, table) in enumerate(self.programs):
            draw = random.Random(seed)
            for entry in draw.sample(table, min(6, len(table))):
                other = bent(draw, program, entry)
                value = [other if row == entry else row for row in table]
                self.assertIs(is_table(program, value), is_closed(program, value))

    def test_greater_closed_tables(self):
        for seed, (program, table) in enumerate(self.programs[:60]):
            draw = random.Random(seed)
            more = closure(program, table + [any_entry(draw, program) for _ in range(2)])
            self.assertIs(is_table(program, draw.sample(sorted(more), len(more))), True)
            self.assertIs(is_table(program, tuple(more)), True)
            entry = draw.choice(sorted(more))
            value = [other for other in more if other != entry]
            self.assertIs(is_table(program, value), is_closed(program, value))

    def test_more_of_again_and_again_comes_to_the_least_table(self):
        for program, table in self.programs[:60]:
            found = []
            while more_of(program, found):
                more = more_of(program, found)
                self.assertFalse(set(more) & set(found))
                found = joined(program, found, more)
            self.assertEqual(found, table)


class RulesTest(unittest.TestCase):
    """Each rule alone: what an entry asks for at one step."""

    def setUp(self):
        rows = {"main": [("any", "x"), ("call", "sub"), ("either", 0), ("keep",), ("give",)], "sub": [("raise", 2)],
                "one": [("set", "x", 1)], "two": []}
        self.program = Program(
            2, 3, {"x": 0}, rows, {"a": (1, "one"), "b": (2, "two"), "c": (2, "two")},
            guards={("main", 0): 2, ("main", 2): 1, ("main", 5): 2},
        )
        self.first = (("main", 0, (0,), 0), 0, 0, (0,), 0)
        self.table = table_of(self.program)
        # Behind the first row, which can be done in three ways.
        self.ways = [self.at(1, 0, value, 0) for value in range(3)]

    def more(self, *entries):
        """What is asked for by the first entries and some more."""
        return more_of(self.program, [self.first, *self.ways, *entries])

    def at(self, point, kept, value, mask):
        """An entry of the main procedure."""
        return (self.first[0], point, kept, (value,), mask)

    def test_the_first_entry(self):
        self.assertEqual(more_of(self.program, []), [self.first])
        self.assertEqual(more_of(self.program, ()), [self.first])
        self.assertIs(is_table(self.program, []), False)
        value = [entry for entry in self.table if entry != self.first]
        self.assertEqual(more_of(self.program, value), [self.first])

    def test_each_way_of_a_row(self):
        self.assertEqual(more_of(self.program, [self.first]), self.ways)
        either = more_of(self.program, [self.first, *self.ways, self.at(2, 2, 1, 2)])
        for entry in (self.at(0, 2, 1, 2), self.at(3, 2, 1, 2)):
            self.assertIn(entry, either)
        keep, give = self.at(3, 0, 1, 2), self.at(4, 1, 1, 2)
        self.assertIn(self.at(4, 2, 1, 2), self.more(keep))
        self.assertIn(self.at(5, 1, 1, 1), self.more(give))

    def test_lines_that_can_be_served(self):
        firsts = [(("one", 1, (1,), 1), 0, 0, (1,), 1), (("two", 2, (1,), 2), 0, 0, (1,), 2)]
        there = self.at(1, 0, 1, 0)
        self.assertIn(there, self.ways)
        for entry in firsts:
            self.assertIn(entry, self.more())
        # A guard and a mask keep lines out, each for itself.
        guarded, masked, shut = self.at(2, 0, 2, 0), self.at(4, 0, 2, 1), self.at(4, 0, 2, 2)
        begun = [(("one", 1, (2,), 1), 0, 0, (2,), 1), (("two", 2, (2,), 2), 0, 0, (2,), 2)]
        for entry, wanted in [(guarded, begun[1:]), (masked, begun[1:]), (shut, []), (self.at(5, 0, 2, 0), [])]:
            found = more_of(self.program, [entry])
            self.assertEqual([other for other in found if other in begun], wanted)

    def test_what_a_line_leaves(self):
        end = (("two", 2, (1,), 2), 0, 0, (2,), 2)
        for kept in range(3):
            self.assertIn(self.at(4, kept, 2, 1), more_of(self.program, [self.at(4, kept, 1, 1), end]))
        # What is left at an end with another mask goes on with the mask that it had below.
        self.assertNotIn(self.at(4, 0, 2, 2), more_of(self.program, [self.at(4, 0, 1, 1), end]))
        self.assertNotIn(self.at(4, 0, 2, 2), more_of(self.program, [self.at(4, 0, 1, 2), end]))
        other = (("two", 2, (0,), 2), 0, 0, (2,), 2)
        self.assertNotIn(self.at(4, 0, 2, 1), more_of(self.program, [self.at(4, 0, 1, 1), other]))

    def test_a_line_counts_at_its_end_alone(self):
        begun = ("one", 1, (0,), 1)
        there, inside, end = self.at(1, 0, 0, 0), (begun, 0, 0, (2,), 1), (begun, 1, 0, (2,), 1)
        self.assertNotIn(self.at(1, 0, 2, 0), more_of(self.program, [there, inside]))
        self.assertIn(self.at(1, 0, 2, 0), more_of(self.program, [there, end]))

    def test_calls(self):
        there = self.at(1, 2, 1, 0)
        self.assertIn((("sub", 0, (1,), 0), 0, 0, (1,), 0), more_of(self.program, [there]))
        end = (("sub", 0, (1,), 0), 1, 1, (2,), 2)
        self.assertIn(self.at(2, 2, 2, 2), more_of(self.program, [there, end]))
        self.assertNotIn(self.at(1, 2, 2, 0), more_of(self.program, [there, end]))
        other = (("sub", 0, (1,), 1), 1, 1, (2,), 2)
        self.assertNotIn(self.at(2, 2, 2, 2), more_of(self.program, [there, other]))
        inside = (("sub", 0, (1,), 0), 0, 1, (2,), 2)
        self.assertNotIn(self.at(2, 2, 2, 2), more_of(self.program, [there, inside]))

    def test_calls_have_the_floor_of_their_frame(self):
        rows = {"main": [], "serve": [("call", "sub")], "sub": [("mask", 0)]}
        program = Program(3, 2, {"x": 0}, rows, {"t": (2, "serve")})
        entry = (("serve", 2, (0,), 2), 0, 0, (1,), 3)
        self.assertIn((("sub", 2, (1,), 3), 0, 0, (1,), 3), more_of(program, [entry]))
        self.assertIn((("sub", 2, (0,), 2), 1, 0, (0,), 2), table_of(program))

    def test_the_order_of_texts(self):
        rows = {"main": [("any", "x")] + [("keep",)] * 11}
        program = Program(1, 3, {"x": 0}, rows, {})
        self.assertEqual(table_of(program), sorted(table_of(program), key=str))
        self.assertNotEqual(table_of(program), sorted(table_of(program)))
        table = [entry for entry in table_of(program) if entry[1] not in (2, 10)]
        wanted = [(self.first[0], point, 0, (value,), 0) for point in (10, 2) for value in range(3)]
        self.assertEqual(more_of(program, table), wanted)
        mixed = random.Random(1).sample(table_of(program), 37)
        self.assertEqual(joined(program, mixed), table_of(program))


class JoinedTest(unittest.TestCase):
    def test_joined(self):
        draw, program = random.Random(1), small_program()
        entries = [any_entry(draw, program) for _ in range(12)]
        self.assertEqual(joined(program), [])
        self.assertEqual(joined(program=program), [])
        self.assertEqual(joined(program, []), [])
        self.assertEqual(joined(program, [], ()), [])
        self.assertEqual(joined(program, entries + entries), in_order(entries))
        self.assertEqual(joined(program, entries[:7], tuple(entries[5:]), []), in_order(entries))
        self.assertEqual(joined(program, table_of(program), table_of(program)), table_of(program))

    def test_tables_that_are_joined_need_not_be_closed(self):
        for seed in range(20):
            draw, program = random.Random(seed), few_program(seed)
            one, other = [any_entry(draw, program)], (any_entry(draw, program),)
            self.assertEqual(joined(program, one, other), in_order([*one, *other]))

    def test_what_was_given_stays(self):
        program = small_program()
        given, before = table_of(program)[::-1], table_of(program)[::-1]
        joined(program, given, given)
        more_of(program, given)
        is_table(program, given)
        self.assertEqual(given, before)
        told = joined(program, given)
        told.clear()
        table_of(program).clear()
        more_of(program, []).clear()
        self.assertEqual(joined(program, given), table_of(program))
        self.assertEqual(given, before)


class RefusedTest(unittest.TestCase):
    def setUp(self):
        self.program = small_program()
        self.entry = (("main", 0, (0, 1, 0), 0), 0, 0, (0, 1, 0), 0)
        beginning, point, kept, store, mask = self.entry
        self.wrong = [
            (beginning, 5, kept, store, mask), (beginning, -1, kept, store, mask), (beginning, point, 3, store, mask),
            (beginning, point, -1, store, mask), (beginning, point, kept, (0, 1), mask), (beginning, point, kept, store, 3),
            (beginning, point, kept, [0, 1, 0], mask), (beginning, point, kept, (0, 3, 0), mask), (beginning, point, kept, store, -1),
            (("main", 1, store, 1), 0, 0, store, 0), (("main", 1, store, 0), 0, 0, store, 1), (("other", 0, store, 0), 0, 0, store, 0),
            (("main", 3, store, 3), 0, 0, store, 3), (("main", -1, store, 0), 0, 0, store, 0), (("main", 0, (0,), 0), 0, 0, store, 0),
            (("bell", 0, store, 0), 1, 0, store, 0), (list(beginning), point, kept, store, mask), self.entry + (0,), self.entry[:4],
            list(self.entry), beginning, (beginning + (0,), point, kept, store, mask), (beginning, point, kept, (0, 1, 2), mask),
        ] + odd_values()
        for odd in odd_values():
            self.wrong.extend(self.entry[:at] + (odd,) + self.entry[at + 1:] for at in range(5))
            self.wrong.extend((beginning[:at] + (odd,) + beginning[at + 1:],) + self.entry[1:] for at in range(4))

    def no_tables(self):
        """Values that are no lists or tuples of entries of the program."""
        values = [value for value in odd_values() if not (type(value) in (list, tuple) and len(value) == 0)]
        return values + [{self.entry: True}, {self.entry}, iter([self.entry]), self.entry]

    def test_no_tables(self):
        table = table_of(self.program)
        for entry in self.wrong:
            self.assertIs(is_table(self.program, table + [entry]), False)
            self.assertIs(is_table(self.program, tuple([entry] + table)), False)
        for value in odd_values() + self.no_tables():
            self.assertIs(is_table(self.program, value), False)
        self.assertIs(is_table(self.program, table), True)
        self.assertIs(is_table(self.program, dict.fromkeys(table)), False)

    def refuses(self, value, told, *args):
        with self.assertRaises(BadArgument) as caught:
            told(*args)
        self.assertIs(caught.exception.value, value)

    def test_tables_with_a_wrong_entry(self):
        for entry in self.wrong:
            value = [self.entry, entry]
            self.refuses(value, more_of, self.program, value)
            self.refuses(value, joined, self.program, [self.entry], value, None)

    def test_what_is_no_table(self):
        for value in self.no_tables():
            self.refuses(value, more_of, self.program, value)
            self.refuses(value, joined, self.program, value)
            self.refuses(value, joined, self.program, (), table_of(self.program), value, [None], None)
        self.assertEqual(joined(self.program, [self.entry]), [self.entry])

    def test_what_is_no_program(self):
        for value in odd_values():
            self.refuses(value, table_of, value)
            self.refuses(value, is_table, value, [])
            self.refuses(value, more_of, value, None)
            self.refuses(value, joined, value, None)
            self.refuses(value, joined, value)


if __name__ == "__main__":
    unittest.main()
