"""[26], [1] (g): parts of books, held against all moves and against the rules word by word."""

import itertools
import random
import unittest

from maskedlevels.books import book_of, is_book
from maskedlevels.errors import BadArgument
from maskedlevels.partbooks import demands, is_part, joined_book, part_of, unkept, untouched
from maskedlevels.programs import Program
from tests.binding import any_page, asked, begun_page, book_with, ends_in, named_states, pages_in, servable
from tests.test_books import booked_programs
from tests.values import Refusals, odd_values, small_program
from tests.walks import any_store, few_program, in_order

PROGRAMS = 40


def all_names(program):
    return [None, *program.lines()]


def begun_by(program, pages):
    """The tuples (line, store) with which lines begin at pages."""
    return {(line, page[3]) for page in pages for line in servable(program, page)}


def is_right(program, names, part):
    """Whether a part of the right form is right, word by word."""
    pages, granted = part
    own = all(page[0] in names for page in pages) and not any(line in names for line, _, _ in granted)
    return own and asked(program, set(pages), names, granted) <= set(pages)


def not_kept(program, parts):
    """What parts need and all together do not keep, word by word."""
    all_pages = {page for _, (pages, _) in parts for page in pages}
    found = set()
    for name, store in {(None, program.first_store())} | begun_by(program, all_pages):
        if begun_page(program, name, store) not in all_pages:
            found.add(("begin", name, store))
    for (_, (one, _)), (_, (other, granted)) in itertools.permutations(parts, 2):
        begun, own = begun_by(program, other), ends_in(program, other)
        for end in ends_in(program, one):
            if end[:2] in begun and end not in own and end not in granted:
                found.add(("end", *end))
    return in_order(found)


def split(draw, names):
    """The names in some groups, each name in one of them."""
    groups = [[] for _ in range(draw.randint(1, 3))]
    for name in names:
        draw.choice(groups).append(name)
    return groups


def granted_some(draw, program, names):
    """Some ends of lines that are none of the names, whether or not they leave them."""
    others = [line for line in program.lines() if line not in names]
    many = draw.randint(0, 2) if others else 0
    return [(draw.choice(others), any_store(draw, program), any_store(draw, program)) for _ in range(many)]


def greater_part(draw, program, names, part):
    """A right part with more pages, and more that is granted."""
    pages, granted = part
    more = [page for page in (any_page(draw, program, any_store) for _ in range(6)) if page[0] in names][:2]
    taken = granted + granted_some(draw, program, names)
    return (in_order(book_with(program, pages + more, names, taken)), taken)


class WalkedTest(unittest.TestCase):
    """The parts of many programs."""

    @classmethod
    def setUpClass(cls):
        cls.programs = list(booked_programs(PROGRAMS, 250))

    def choices(self, draw, program):
        names = all_names(program)
        return [[], *[[name] for name in names], names[::-1], tuple(draw.sample(names, draw.randint(0, len(names))))]

    def test_parts_of_the_least_book(self):
        for seed, (program, book) in enumerate(self.programs):
            draw, ends = random.Random(seed), ends_in(program, book)
            for names in self.choices(draw, program):
                pages = [page for page in book if page[0] in names]
                begun = {pair for pair in begun_by(program, pages) if pair[0] not in names}
                granted = in_order(end for end in ends if end[:2] in begun)
                part = part_of(program, names)
                self.assertEqual(part, (pages, granted))
                self.assertEqual((type(part), type(part[0]), type(part[1])), (tuple, list, list))
                self.assertIs(is_part(program, names, part), True)
                self.assertEqual(demands(program, names, part), in_order(begun))

    def test_all_names_and_none(self):
        for program, book in self.programs:
            self.assertEqual(part_of(program, all_names(program)), (book, []))
            self.assertEqual(part_of(program, ()), ([], []))

    def test_parts_in_any_form(self):
        for seed, (program, _) in enumerate(self.programs):
            draw = random.Random(seed)
            names = draw.choice(self.choices(draw, program))
            pages, granted = part_of(program, names)
            for one in (pages, tuple(pages), draw.sample(pages, len(pages)), pages + pages):
                for other in (granted, tuple(granted[::-1]), granted + granted):
                    self.assertIs(is_part(program, list(names)[::-1], (one, other)), True)

    def test_pages_and_ends_that_are_bent(self):
        counts = {True: 0, False: 0}
        for seed, (program, _) in enumerate(self.programs):
            draw = random.Random(seed)
            for names in self.choices(draw, program):
                pages, granted = part_of(program, names)
                values = [(pages + [any_page(draw, program, any_store)], granted), (pages, granted + granted_some(draw, program, names))]
                values.extend(([other for other in pages if other != page], granted) for page in draw.sample(pages, min(2, len(pages))))
                values.extend((pages, [other for other in granted if other != end]) for end in draw.sample(granted, min(2, len(granted))))
                values.append((pages, granted + [(line, any_store(draw, program), any_store(draw, program)) for line in program.lines()[:1]]))
                for value in values:
                    wanted = is_right(program, names, value)
                    counts[wanted] += 1
                    self.assertIs(is_part(program, names, value), wanted)
        self.assertGreater(min(counts.values()), 100, counts)

    def test_greater_parts(self):
        counts = {True: 0, False: 0}
        for seed, (program, _) in enumerate(self.programs[::2]):
            draw = random.Random(seed)
            names = draw.choice(self.choices(draw, program))
            part = greater_part(draw, program, names, part_of(program, names))
            self.assertIs(is_part(program, names, part), True)
            begun = {pair for pair in begun_by(program, part[0]) if pair[0] not in names}
            self.assertEqual(demands(program, names, part), in_order(begun))
            if part[0]:
                page = draw.choice(part[0])
                value = ([other for other in part[0] if other != page], part[1])
                counts[is_part(program, names, value)] += 1
                self.assertIs(is_part(program, names, value), is_right(program, names, value))
        self.assertGreater(counts[False], 10, counts)

    def test_parts_of_the_least_book_are_kept_and_joined(self):
        for seed, (program, book) in enumerate(self.programs):
            groups = split(random.Random(seed), all_names(program))
            parts = [(names, part_of(program, names)) for names in groups]
            self.assertEqual(unkept(program, parts), [])
            self.assertEqual(joined_book(program, tuple(parts)), book)

    def test_parts_left_out_and_greater_ones(self):
        kinds = {}
        for seed, (program, _) in enumerate(self.programs):
            draw = random.Random(seed)
            groups = split(draw, all_names(program)) + split(draw, all_names(program))[:1]
            parts = [(names, part_of(program, names)) for names in groups]
            for at in range(len(parts)):
                if draw.random() < 0.3:
                    parts[at] = (parts[at][0], greater_part(draw, program, *parts[at]))
            parts = draw.sample(parts, max(0, len(parts) - draw.choice([0, 0, 1, 2])))
            wanted = not_kept(program, parts)
            self.assertEqual(unkept(program, parts), wanted)
            told = joined_book(program, parts)
            if wanted:
                self.assertIsNone(told)
                for row in wanted:
                    kinds[row[0]] = kinds.get(row[0], 0) + 1
                continue
            kinds["kept"] = kinds.get("kept", 0) + 1
            self.assertEqual(told, in_order(page for _, (pages, _) in parts for page in pages))
            self.assertIs(is_book(program, told), True)
        self.assertGreater(min(kinds.values()), 10, kinds)
        self.assertEqual(len(kinds), 3)

    def test_untouched(self):
        counts = {True: 0, False: 0}
        for seed, (program, book) in enumerate(self.programs):
            draw = random.Random(seed)
            name = draw.choice(program.procedures())
            other = program.with_guards({**program.guards(), (name, draw.randint(0, len(program[name]))): draw.randint(1, program.levels)})
            states = named_states(other)
            if states is not None:
                pages = pages_in(states)
                wanted = [name for name in all_names(program) if {page for page in book if page[0] == name} == {page for page in pages if page[0] == name}]
                self.assertEqual(untouched(program, other), wanted)
                self.assertEqual(untouched(other, program), wanted)
                counts[len(wanted) == len(all_names(program))] += 1
            self.assertEqual(untouched(program, program), all_names(program))
        self.assertGreater(min(counts.values()), 5, counts)


class PartsTest(unittest.TestCase):
    """A main procedure that keeps a line out, and a line that changes a cell."""

    def setUp(self):
        rows = {"main": [("look", "x"), ("look", "x")], "put": [("set", "x", 1)], "two": [("set", "x", 0)]}
        self.program = Program(2, 2, {"x": 0}, rows, {"t": (1, "put"), "u": (2, "two")}, guards={("main", 0): 2, ("main", 2): 2, ("put", 0): 2})
        self.main = [self.at(0, 0), self.at(1, 0), self.at(1, 1), self.at(2, 0), self.at(2, 1)]

    def at(self, point, value):
        return (None, (0,), (("main", point, 0),), (value,), 0)

    def line(self, first, point, value):
        return ("t", (first,), (("put", point, 0),), (value,), 1)

    def test_the_main_one(self):
        granted = [("t", (0,), (1,)), ("t", (1,), (1,)), ("u", (0,), (0,)), ("u", (1,), (0,))]
        # The line leaves 0, too, as another one is served at its end.
        part = (self.main, sorted(granted + [("t", (0,), (0,)), ("t", (1,), (0,))]))
        self.assertEqual(part_of(self.program, [None]), part)
        self.assertEqual(demands(self.program, [None], part), [("t", (0,)), ("t", (1,)), ("u", (0,)), ("u", (1,))])

    def test_less_that_is_granted_needs_less_pages(self):
        main = [self.at(0, 0), self.at(1, 0), self.at(2, 0)]
        for granted in ([], [("u", (0,), (0,))], [("t", (1,), (0,)), ("u", (0,), (0,))], [("u", (1,), (1,))]):
            self.assertIs(is_part(self.program, [None], (main, granted)), True, granted)
        for granted in ([("t", (0,), (1,))], [("u", (0,), (1,))]):
            self.assertIs(is_part(self.program, [None], (main, granted)), False, granted)
            self.assertIs(is_part(self.program, [None], (self.main, granted)), True, granted)

    def test_the_main_page_is_asked_for_by_its_name_alone(self):
        self.assertIs(is_part(self.program, [None], ([], [])), False)
        for names in ([], ["t"], ["t", "u"]):
            self.assertIs(is_part(self.program, names, ([], [])), True)

    def test_first_pages_of_own_lines_alone(self):
        part = part_of(self.program, [None])
        self.assertIs(is_part(self.program, [None, "t"], (part[0], [end for end in part[1] if end[0] == "u"])), False)
        both = part_of(self.program, ["t", None])
        self.assertEqual([page for page in both[0] if page[0] is None], self.main)
        self.assertIn(self.line(0, 0, 0), both[0])
        self.assertEqual({end[0] for end in both[1]}, {"u"})

    def test_a_line_alone_with_any_pages(self):
        pages = [self.line(0, 0, 0), self.line(0, 1, 1)]
        self.assertIs(is_part(self.program, ["t"], (pages, [])), True)
        self.assertIs(is_part(self.program, ("t",), (pages[1:], [])), True)
        self.assertIs(is_part(self.program, ["t"], (pages[:1], [])), False)
        self.assertIs(is_part(self.program, ["t"], (pages, [("u", (1,), (0,))])), False)
        self.assertIs(is_part(self.program, ["t"], (pages + [self.line(0, 1, 0)], [("u", (1,), (0,))])), True)
        self.assertEqual(demands(self.program, ["t"], (pages, [])), [("u", (1,))])

    def test_pages_and_ends_of_other_activations(self):
        main, line = part_of(self.program, [None]), part_of(self.program, ["t"])
        self.assertIs(is_part(self.program, [None], (main[0] + line[0], main[1])), False)
        self.assertIs(is_part(self.program, ["t"], (line[0] + main[0][:1], line[1])), False)
        self.assertIs(is_part(self.program, ["t"], (line[0], line[1] + [("t", (0,), (1,))])), False)

    def test_what_is_not_kept(self):
        parts = {name: ([name], part_of(self.program, [name])) for name in (None, "t", "u")}
        self.assertEqual(unkept(self.program, list(parts.values())), [])
        self.assertEqual(joined_book(self.program, list(parts.values())), book_of(self.program))
        self.assertEqual(unkept(self.program, []), [("begin", None, (0,))])
        self.assertEqual(unkept(self.program, ()), [("begin", None, (0,))])
        self.assertIsNone(joined_book(self.program, []))
        self.assertEqual(unkept(self.program, [parts["t"], parts["u"]]), [("begin", None, (0,))])
        self.assertEqual(unkept(self.program, [parts[None], parts["u"]]), [("begin", "t", (0,)), ("begin", "t", (1,))])
        self.assertEqual(unkept(self.program, [parts["u"]]), [("begin", None, (0,))])

    def test_an_end_more_than_is_granted(self):
        main, line = part_of(self.program, [None]), part_of(self.program, ["t"])
        high = (["u"], part_of(self.program, ["u"]))
        less = (self.main, [end for end in main[1] if end != ("t", (1,), (0,))])
        self.assertEqual(unkept(self.program, [([None], less), (["t"], line), high]), [("end", "t", (1,), (0,))])
        more = (self.main, main[1] + [("t", (1,), (0,))])
        self.assertEqual(unkept(self.program, [([None], more), (["t"], line), high]), [])

    def test_ends_of_lines_that_do_not_begin(self):
        # Nothing begins the other line with this store, so that its ends need not be granted.
        rows = {"main": [("look", "x")], "put": [], "two": []}
        program = Program(2, 2, {"x": 0}, rows, {"t": (1, "put"), "u": (2, "two")})
        main = ([None], part_of(program, [None]))
        lines = (["t", "u"], part_of(program, ["t", "u"]))
        self.assertEqual(unkept(program, [main, lines]), [])
        end = ("u", (1,), (("two", 0, 0),), (0,), 2)
        self.assertEqual(unkept(program, [main, (lines[0], (lines[1][0] + [end], []))]), [])

    def test_two_parts_for_the_same_names(self):
        names, part = [None, "t", "u"], part_of(self.program, [None, "t", "u"])
        self.assertEqual(unkept(self.program, [(names, part)] * 2), [])
        self.assertEqual(joined_book(self.program, [(names, part)] * 2), book_of(self.program))
        end = ("u", (0,), (("two", 1, 2),), (1,), 2)
        more = (in_order(book_with(self.program, part[0] + [end])), [])
        self.assertIs(is_part(self.program, names, more), True)
        self.assertEqual(unkept(self.program, [(names, part), (names[::-1], more)]), [("end", "u", (0,), (1,))])
        self.assertEqual(unkept(self.program, [(names, more)]), [])
        self.assertEqual(joined_book(self.program, [(names, more)]), more[0])


class UntouchedTest(unittest.TestCase):
    def made(self, **changes):
        parts = {
            "levels": 2, "size": 2, "start": {"x": 0}, "lines": {"t": (1, "put"), "u": (2, "two"), "a": (1, "idle")},
            "procedures": {"main": [("look", "x")], "put": [("set", "x", 0)], "two": [("keep",)], "idle": []},
        }
        parts.update(changes)
        return Program(**parts)

    def told(self, other, names, back=None):
        self.assertEqual(untouched(self.made(), other), names)
        self.assertEqual(untouched(program=other, other=self.made()), names if back is None else back)

    def test_nothing_is_unlike(self):
        self.told(self.made(), [None, "a", "t", "u"])

    def test_a_row_that_changes_one_activation_alone(self):
        rows = {"main": [("look", "x")], "put": [("set", "x", 0)], "two": [("keep",)], "idle": []}
        self.told(self.made(procedures={**rows, "two": [("keep",), ("keep",)]}), [None, "a", "t"])
        self.told(self.made(procedures={**rows, "put": [("look", "x")]}), [None, "a", "t", "u"])
        self.told(self.made(procedures={**rows, "put": [("set", "x", 1)]}), [])

    def test_a_guard(self):
        self.told(self.made(guards={("two", 0): 2}), [None, "a", "t", "u"])
        self.told(self.made(guards={("main", 0): 1, ("main", 1): 1}), [None, "u"])

    def test_other_lines(self):
        self.told(self.made(lines={"t": (1, "put")}), [None, "t"])
        self.told(self.made(lines={"t": (2, "put"), "u": (2, "two"), "b": (1, "put")}), [None, "u"])
        self.told(self.made(lines={}), [None])

    def test_lines_that_are_never_served(self):
        guards = {("main", point): 2 for point in (0, 1)}
        one, other = self.made(guards=guards), self.made(guards=guards, lines={"t": (2, "idle"), "u": (2, "put")})
        self.assertEqual(untouched(one, other), [None, "t", "u"])

    def test_other_cells_and_main_procedures(self):
        self.told(self.made(start={"x": 1}), ["a", "t", "u"][:0])
        self.told(self.made(main="put"), ["a", "t", "u"])
        self.told(self.made(start={"x": 0, "y": 0}), [])


class RefusedTest(unittest.TestCase, Refusals):
    def setUp(self):
        self.program = small_program()
        self.parts = [(names, part_of(self.program, names)) for names in ([None, "ring"], ["tick", "alarm"])]
        self.odd_names = [value for value in odd_values() if not (type(value) in (list, tuple) and len(value) == 0)]

    def test_programs_and_names(self):
        part = self.parts[0][1]
        for value in odd_values():
            self.refuses(BadArgument, value, part_of, value, [])
            self.refuses(BadArgument, value, is_part, value, [], ([], []))
            self.refuses(BadArgument, value, demands, value, [], ([], []))
            for told in (unkept, joined_book):
                self.refuses(BadArgument, value, told, value, [])
                self.refuses(BadArgument, value, told, value, None)
            self.refuses(BadArgument, value, untouched, value, self.program)
            self.refuses(BadArgument, value, untouched, value, None)
            self.refuses(BadArgument, value, untouched, self.program, value)
        wrong = [[None, None], ["tick", "tick"], ["tick", "other"], ["main"], "tick", ["tick", 0], {"tick": True}, {None}, ["Tick"], [["tick"]]]
        for names in wrong + self.odd_names + [[value] for value in odd_values() if value is not None]:
            self.refuses(BadArgument, names, part_of, self.program, names)
            self.refuses(BadArgument, names, is_part, self.program, names, part)
            self.refuses(BadArgument, names, is_part, self.program, names, None)
            self.refuses(BadArgument, names, demands, self.program, names, part)
            self.refuses(BadArgument, names, demands, self.program, names, None)

    def wrong_parts(self):
        names, (pages, granted) = self.parts[0]
        end, store = granted[0], (0, 1, 0)
        ends = [
            (end[0], store), (end[0], store, store, store), list(end), ("other", store, store), ("ring", store, store), (None, store, store),
            (end[0], (0, 1), store), (end[0], store, (0, 1)), (end[0], [0, 1, 0], store), (end[0], store, (0, 3, 0)), None, end[0],
        ]
        # No page needs what follows from these.
        never = (2, 2, 1)
        ends.extend([(end[0], never, (0, 1)), (end[0], never, (0, 3, 0)), (end[0], never, [0, 1, 0]), (end[0], never, None), (end[0], (2, 2, 2), never)])
        self.assertIs(is_part(self.program, names, (pages, granted + [(end[0], never, never)])), True)
        values = [(pages,), (pages, granted, []), [pages, granted], pages, (pages, None), (None, granted), ({}, granted), (pages, {}), None, (), ([], [])]
        values.extend((pages, granted + [value]) for value in ends + odd_values())
        values.extend((pages + [value], granted) for value in odd_values())
        values.extend((odd, granted) for odd in odd_values())
        values.extend((pages, odd) for odd in self.odd_names)
        values.append((iter(pages), granted))
        values.append((pages[1:], granted))
        return values + odd_values()

    def test_parts_of_any_kind(self):
        names, part = self.parts[0]
        self.assertIs(is_part(self.program, names, part), True)
        for value in self.wrong_parts():
            self.assertIs(is_part(self.program, names, value), False)
            self.refuses(BadArgument, value, demands, self.program, names, value)

    def test_parts_then_entries(self):
        for told in (unkept, joined_book):
            for value in self.odd_names + [dict.fromkeys(["a"]), iter(self.parts)]:
                if type(value) not in (list, tuple):
                    self.refuses(BadArgument, value, told, self.program, value)
            names, part = self.parts[0]
            wrong = [(names, value) for value in self.wrong_parts()]
            wrong.extend([(["tick"], part), (names,), (names, part, part), [names, part], part, names, ([None, None, "ring"], part), (None, part), ("ring", part)])
            for entry in wrong + odd_values():
                self.refuses(BadArgument, entry, told, self.program, [self.parts[0], entry, None])
                self.refuses(BadArgument, entry, told, self.program, (entry, *self.parts))
            self.assertIsNot(told(self.program, tuple(self.parts)), None)

    def test_what_was_given_stays(self):
        names, part = self.parts[0]
        before = (list(names), tuple(list(rows) for rows in part))
        parts = list(self.parts)
        unkept(self.program, parts)
        joined_book(self.program, parts)
        demands(self.program, names, part)
        is_part(self.program, names, part)
        self.assertEqual(((names), part), before)
        told = part_of(self.program, names)
        told[0].clear()
        told[1].append(None)
        joined_book(self.program, parts).clear()
        unkept(self.program, []).clear()
        self.assertEqual(part_of(self.program, names), before[1])
        self.assertEqual(joined_book(self.program, parts), book_of(self.program))


class GeneratedTest(unittest.TestCase):
    def test_lists_and_tuples_of_names(self):
        for seed in range(10):
            program = few_program(seed)
            names = all_names(program)
            self.assertEqual(part_of(program, tuple(names)), part_of(program, names[::-1]))


if __name__ == "__main__":
    unittest.main()
