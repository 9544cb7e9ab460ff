"""[24], [1] (b), (g): books of pages, held against all moves and against their rules word by word."""

import random
import unittest

from maskedlevels.books import book_of, is_book, lacking
from maskedlevels.errors import BadArgument
from maskedlevels.programs import Program
from tests.binding import any_page, asked, book_with, named_states, page_of, pages_in
from tests.rounds import held_program, waiting_program
from tests.values import Refusals, odd_values, small_program
from tests.walks import any_store, few_program, in_order

PROGRAMS = 100


def booked_programs(many, most=400):
    """Programs with few states, each with the pages of all of them."""
    for made in (few_program, held_program, waiting_program):
        for seed in range(many):
            program = made(seed)
            states = named_states(program, most)
            if states is not None:
                yield program, in_order(pages_in(states))


def bent_page(draw, program, page):
    """The page with another value in one part; it may be none of the program any more."""
    name, first, frames, store, mask = page
    procedure, point, kept = frames[-1]
    return draw.choice([
        (draw.choice([None, *program.lines()]), first, frames, store, mask), (name, any_store(draw, program), frames, store, mask),
        (name, first, frames, any_store(draw, program), mask), (name, first, frames, store, draw.randint(0, 4)),
        (name, first, frames[:-1] + ((procedure, draw.randint(0, 6), kept),), store, mask),
        (name, first, frames[:-1] + ((procedure, point, draw.randint(0, 4)),), store, mask),
        (name, first, frames[:-1] + ((draw.choice(program.procedures()), point, kept),), store, mask),
        (name, first, frames + (("main", 0, 0),), store, mask), (name, first, frames[1:], store, mask),
    ])


def is_page(program, page):
    """Whether a tuple of the right form is a page of the program, word by word."""
    name, _, frames, _, mask = page
    floor, procedure = (0, program.main) if name is None else program.line_of(name)
    return (
        len(frames) > 0 and frames[0][0] == procedure and floor <= mask <= program.levels
        and all(point <= len(program[frame]) and kept <= program.levels for frame, point, kept in frames)
    )


def is_closed(program, pages):
    return all(is_page(program, page) for page in pages) and asked(program, set(pages)) <= set(pages)


class WalkedTest(unittest.TestCase):
    """The books of many programs."""

    @classmethod
    def setUpClass(cls):
        cls.programs = list(booked_programs(PROGRAMS))

    def test_the_least_book_is_where_activations_of_runs_can_be(self):
        nested = 0
        for program, book in self.programs:
            self.assertEqual(book_of(program), book)
            nested += any(len(page[2]) > 2 for page in book)
        self.assertGreater(nested, 10)

    def test_it_is_the_least_one_that_is_closed(self):
        for program, book in self.programs[::4]:
            self.assertEqual(book_with(program), set(book))

    def test_it_is_a_book_in_any_form(self):
        for seed, (program, book) in enumerate(self.programs):
            mixed = random.Random(seed).sample(book, len(book))
            for value in (book, tuple(book), mixed, tuple(mixed), mixed + mixed, tuple(book + mixed[:3])):
                self.assertIs(is_book(program, value), True)
                self.assertEqual(lacking(program, value), [])

    def test_a_page_left_out(self):
        for seed, (program, book) in enumerate(self.programs):
            for page in random.Random(seed).sample(book, min(5, len(book))):
                value = [other for other in book if other != page]
                self.assertIs(is_book(program, value), False)
                self.assertIn(page, lacking(program, value))
                self.assertEqual(lacking(program, value), in_order(asked(program, set(value)) - set(value)))

    def test_a_page_put_in(self):
        kinds = set()
        for seed, (program, book) in enumerate(self.programs):
            draw = random.Random(seed)
            for page in [any_page(draw, program, any_store) for _ in range(4)]:
                value = book + [page]
                kinds.add(is_book(program, value))
                self.assertIs(is_book(program, value), is_closed(program, value))
                self.assertEqual(lacking(program, value), in_order(asked(program, set(value)) - set(value)))
        self.assertEqual(kinds, {True, False})

    def test_one_part_bent(self):
        for seed, (program, book) in enumerate(self.programs):
            draw = random.Random(seed)
            for page in draw.sample(book, min(5, len(book))):
                other = bent_page(draw, program, page)
                value = [other if row == page else row for row in book]
                self.assertIs(is_book(program, value), is_closed(program, value))

    def test_greater_books(self):
        for seed, (program, book) in enumerate(self.programs[::6]):
            draw = random.Random(seed)
            more = in_order(book_with(program, book + [any_page(draw, program, any_store) for _ in range(2)]))
            self.assertIs(is_book(program, draw.sample(more, len(more))), True)
            self.assertIs(is_book(program, tuple(more)), True)
            page = draw.choice(more)
            value = [other for other in more if other != page]
            self.assertIs(is_book(program, value), is_closed(program, value))

    def test_pages_that_no_run_comes_to(self):
        for seed, (program, _) in enumerate(self.programs):
            pages = [any_page(random.Random(seed), program, any_store)]
            self.assertEqual(lacking(program, pages), in_order(asked(program, set(pages)) - set(pages)))

    def test_lacking_again_and_again_comes_to_the_least_book(self):
        for program, book in self.programs[::4]:
            found = []
            while lacking(program, found):
                more = lacking(program, found)
                self.assertFalse(set(more) & set(found))
                found = found + more
            self.assertEqual(in_order(found), book)


class RulesTest(unittest.TestCase):
    """Each rule alone: what a page asks for at one step."""

    def setUp(self):
        rows = {
            "main": [("any", "x"), ("call", "sub"), ("either", 0), ("keep",), ("load", "x"), ("give",)],
            "sub": [("raise", 2)], "one": [("set", "x", 1)], "two": [],
        }
        self.program = Program(
            2, 3, {"x": 0}, rows, {"a": (1, "one"), "b": (2, "two"), "c": (2, "two")},
            guards={("main", 0): 2, ("main", 1): 2, ("main", 2): 1, ("main", 6): 2, ("sub", 0): 2},
        )
        self.first = self.at(0, 0, 0, 0)
        self.ways = [self.at(1, 0, value, 0) for value in range(3)]

    def at(self, point, kept, value, mask, above=(), first=0):
        """A page of the main procedure."""
        return (None, (first,), (("main", point, kept), *above), (value,), mask)

    def begun(self, line, value):
        level, procedure = self.program.line_of(line)
        return (line, (value,), ((procedure, 0, 0),), (value,), level)

    def more(self, *pages):
        """What some pages ask for, besides the first pages of the main procedure."""
        told = lacking(self.program, [self.first, *self.ways, *pages])
        return [page for page in told if page not in lacking(self.program, [self.first, *self.ways])]

    def test_the_first_page(self):
        self.assertEqual(lacking(self.program, []), [self.first])
        self.assertEqual(lacking(self.program, ()), [self.first])
        self.assertIs(is_book(self.program, []), False)
        book = book_of(self.program)
        self.assertEqual(lacking(self.program, [page for page in book if page != self.first]), [self.first])

    def test_each_way_of_a_row(self):
        self.assertEqual(lacking(self.program, [self.first]), self.ways)
        self.assertEqual(self.more(self.at(2, 2, 1, 2)), [self.at(0, 2, 1, 2), self.at(3, 2, 1, 2)])
        self.assertEqual(self.more(self.at(3, 0, 1, 2)), [self.at(4, 2, 1, 2)])
        self.assertEqual(self.more(self.at(5, 2, 1, 2)), [self.at(6, 2, 1, 2)])

    def test_a_kept_level_of_each_frame(self):
        above = (("sub", 0, 2),)
        self.assertEqual(self.more(self.at(3, 1, 0, 2, above)), [self.at(3, 1, 0, 2, (("sub", 1, 2),))])

    def test_a_call_stands_behind_its_row(self):
        there = self.at(1, 2, 1, 2)
        self.assertEqual(self.more(there), [self.at(2, 2, 1, 2, (("sub", 0, 0),))])

    def test_a_return_goes_on_where_the_frame_below_stands(self):
        self.assertEqual(self.more(self.at(2, 1, 2, 2, (("sub", 1, 0),))), [self.at(2, 1, 2, 2)])
        # Whatever the row ahead of it is, and however deep the frames are.
        self.assertEqual(self.more(self.at(4, 1, 2, 2, (("one", 0, 1), ("two", 0, 0)))), [self.at(4, 1, 2, 2, (("one", 0, 1),))])

    def test_lines_at_the_frames_of_a_call(self):
        lines = [self.begun(line, 2) for line in "abc"]
        self.assertEqual(self.more(self.at(2, 0, 2, 0, (("sub", 1, 0),))), in_order([self.at(2, 0, 2, 0), *lines]))
        # A guard of the called one keeps them out, one of the frame below does not.
        self.assertEqual(self.more(self.at(2, 0, 2, 0, (("sub", 0, 0),))), [self.at(2, 0, 2, 2, (("sub", 1, 0),))])

    def test_guards_and_masks_keep_lines_out(self):
        high = [self.begun(line, 1) for line in "bc"]
        self.assertEqual(self.more(self.at(2, 0, 1, 0)), in_order([self.at(0, 0, 1, 0), self.at(3, 0, 1, 0), *high]))
        self.assertEqual(self.more(self.at(3, 0, 1, 1)), in_order([self.at(4, 1, 1, 1), *high]))
        self.assertEqual(self.more(self.at(3, 0, 1, 2)), [self.at(4, 2, 1, 2)])

    def test_masks_behind_a_load_and_a_give_keep_lines_out(self):
        for page, behind, lines in [
            (self.at(4, 0, 2, 0), self.at(5, 0, 2, 2), ""), (self.at(4, 0, 1, 2), self.at(5, 0, 1, 1), "bc"),
            (self.at(4, 0, 0, 2), self.at(5, 0, 0, 0), "abc"),
        ]:
            self.assertIn(behind, self.more(page))
            told = self.more(behind)
            value = behind[3][0]
            self.assertEqual([page for page in told if page[0] is not None], in_order([self.begun(line, value) for line in lines]))
        program = self.program.with_guards({})
        told = lacking(program, [self.at(6, 1, 0, 1)])
        self.assertEqual([page[0] for page in told], ["b", "c", None])

    def test_lines_at_an_end_at_rest_and_on_one_another(self):
        program = self.program.with_guards({})
        lines = [self.begun(line, 2) for line in "abc"]
        for page in (self.at(6, 0, 2, 0), self.at(2, 0, 2, 0, (("sub", 1, 0),))):
            told = lacking(program, [page])
            self.assertEqual([other for other in told if other in lines], lines)
        over = ("a", (0,), (("one", 1, 0),), (2,), 1)
        wanted = [*self.ways, self.at(0, 0, 2, 0), *lines[1:], *[self.begun(line, 0) for line in "abc"]]
        self.assertEqual(lacking(program, [self.first, over]), in_order(wanted))

    def test_the_end_of_an_activation_leads_nowhere(self):
        for page in (self.at(6, 0, 2, 2), ("b", (1,), (("two", 0, 1),), (2,), 2), ("a", (1,), (("one", 1, 0),), (0,), 2)):
            self.assertEqual(self.more(page), [])

    def test_what_a_line_leaves(self):
        there, end = self.at(4, 1, 1, 1), ("b", (1,), (("two", 0, 1),), (2,), 2)
        self.assertIn(self.at(4, 1, 2, 1), self.more(there, end))
        self.assertNotIn(self.at(4, 1, 2, 1), self.more(there))
        # It is left to pages with this store, at which the line can be served, alone.
        for other in (self.at(4, 1, 0, 1), self.at(4, 1, 1, 2)):
            self.assertNotIn((other[:3] + ((2,), other[4])), self.more(other, end))

    def test_it_is_left_at_each_page_at_which_it_was_served(self):
        pages = [
            self.at(4, 0, 1, 1), self.at(4, 2, 1, 0), self.at(2, 0, 1, 0, (("sub", 1, 0),)), self.at(6, 0, 1, 1, (("one", 1, 2),), first=2),
            ("a", (0,), (("one", 0, 0),), (1,), 1), ("a", (2,), (("one", 1, 0),), (1,), 1),
        ]
        told = self.more(*pages, ("c", (1,), (("two", 0, 0),), (0,), 2))
        for page in pages:
            self.assertIn((*page[:3], (0,), page[4]), told)

    def test_a_line_counts_at_its_end_alone(self):
        there = self.at(4, 0, 2, 0)
        for inside in [("a", (2,), (("one", 0, 0),), (0,), 1), ("a", (2,), (("one", 1, 0), ("two", 0, 0)), (0,), 1)]:
            self.assertNotIn(self.at(4, 0, 0, 0), self.more(there, inside))
        for mask in (1, 2):
            self.assertIn(self.at(4, 0, 0, 0), self.more(there, ("a", (2,), (("one", 1, 2),), (0,), mask)))

    def test_lines_with_one_procedure_and_level_are_told_apart(self):
        there, end = self.at(4, 0, 2, 1), ("b", (2,), (("two", 0, 0),), (0,), 2)
        wanted = [self.at(4, 0, 0, 1), self.at(5, 0, 2, 2), self.begun("b", 2), self.begun("c", 2)]
        self.assertEqual(self.more(there, end), in_order(wanted))
        book = book_of(self.program)
        self.assertEqual(len([page for page in book if page[0] == "b"]), len([page for page in book if page[0] == "c"]))

    def test_only_what_the_first_step_asks_for(self):
        self.assertEqual(lacking(self.program, [self.at(2, 0, 1, 2)]), in_order([self.first, self.at(0, 0, 1, 2), self.at(3, 0, 1, 2)]))

    def test_other_first_stores_of_the_main_procedure(self):
        page = self.at(3, 0, 1, 2, first=2)
        self.assertEqual(self.more(page), [self.at(4, 2, 1, 2, first=2)])

    def test_the_main_page_is_that_with_the_first_store(self):
        program = Program(1, 2, {"x": 1}, {"main": []}, {})
        self.assertEqual(book_of(program), [(None, (1,), (("main", 0, 0),), (1,), 0)])
        self.assertEqual(lacking(program, [(None, (0,), (("main", 0, 0),), (0,), 0)]), book_of(program))
        self.assertIs(is_book(program, [(None, (0,), (("main", 0, 0),), (0,), 0), *book_of(program)]), True)

    def test_the_order_of_texts(self):
        program = Program(1, 3, {"x": 0}, {"main": [("any", "x")] + [("keep",)] * 11}, {})
        book = book_of(program)
        self.assertEqual(book, sorted(book, key=str))
        self.assertNotEqual(book, sorted(book, key=lambda page: page[2:]))
        told = lacking(program, [page for page in book if page[2][0][1] not in (2, 10)])
        self.assertEqual([page[2][0][1] for page in told], [10, 10, 10, 2, 2, 2])


class RefusedTest(unittest.TestCase, Refusals):
    def setUp(self):
        self.program = small_program()
        self.page = ("tick", (0, 1, 0), (("clock", 0, 0),), (0, 1, 0), 1)
        store, frames, main = (0, 1, 0), self.page[2], (("main", 0, 0),)
        self.wrong = [
            ("tick", store, main, store, 1), (None, store, frames, store, 0), ("ring", store, frames, store, 2), ("other", store, frames, store, 1),
            ("main", store, main, store, 0), ("tick", store, (), store, 1), ("tick", store, [("clock", 0, 0)], store, 1),
            ("tick", store, (("clock", 2, 0),), store, 1), ("tick", store, (("clock", -1, 0),), store, 1), ("tick", store, (("clock", True, 0),), store, 1),
            ("tick", store, (("clock", 0, 3),), store, 1), ("tick", store, (("clock", 0, -1),), store, 1), ("tick", store, (("clock", 0, True),), store, 1),
            ("tick", store, (("clock", 0),), store, 1), ("tick", store, (["clock", 0, 0],), store, 1), ("tick", store, (*frames, ("other", 0, 0)), store, 1),
            ("tick", store, (*frames, ("sub", 2, 0)), store, 1), ("tick", store, frames, store, 0), ("tick", store, frames, store, 3),
            ("tick", store, frames, store, True), ("alarm", store, frames, store, 1), (None, store, main, store, -1), (None, store, main, store, 3),
            ("tick", store, frames, (0, 1), 1), ("tick", store, frames, (0, 3, 0), 1), ("tick", store, frames, (0, 1, 2), 1), ("tick", (0, 1), frames, store, 1),
            ("tick", [0, 1, 0], frames, store, 1), ("tick", store, frames, [0, 1, 0], 1), ("tick", (False, 1, 0), frames, store, 1),
            self.page + (0,), self.page[:4], list(self.page),
        ]
        for odd in odd_values():
            self.wrong.append(odd)
            self.wrong.extend(self.page[:at] + (odd,) + self.page[at + 1:] for at in range(1 if odd is None else 0, 5))
            self.wrong.extend(("tick", store, (("clock", 0, 0)[:at] + (odd,) + ("clock", 0, 0)[at + 1:],), store, 1) for at in range(3))

    def no_pages(self):
        """Values that are no lists or tuples of pages of the program."""
        values = [value for value in odd_values() if not (type(value) in (list, tuple) and len(value) == 0)]
        return values + [{self.page: True}, {self.page}, iter([self.page]), self.page]

    def test_no_books(self):
        book = book_of(self.program)
        for page in self.wrong:
            self.assertIs(is_book(self.program, book + [page]), False)
            self.assertIs(is_book(self.program, tuple([page] + book)), False)
        for value in odd_values() + self.no_pages():
            self.assertIs(is_book(self.program, value), False)
        self.assertIs(is_book(self.program, book), True)
        self.assertIs(is_book(self.program, dict.fromkeys(book)), False)

    def test_what_is_no_list_of_pages(self):
        for page in self.wrong:
            value = [self.page, page]
            self.refuses(BadArgument, value, lacking, self.program, value)
        for value in self.no_pages():
            self.refuses(BadArgument, value, lacking, self.program, value)
        self.assertNotEqual(lacking(self.program, [self.page]), [])

    def test_what_is_no_program(self):
        for value in odd_values():
            self.refuses(BadArgument, value, book_of, value)
            self.refuses(BadArgument, value, is_book, value, [])
            self.refuses(BadArgument, value, is_book, value, None)
            self.refuses(BadArgument, value, lacking, value, [])
            self.refuses(BadArgument, value, lacking, value, None)


class GivenTest(unittest.TestCase):
    def test_what_was_given_stays(self):
        program = small_program()
        given, before = book_of(program)[::-1], book_of(program)[::-1]
        lacking(program, given)
        is_book(program, given)
        self.assertEqual(given, before)
        told = book_of(program)
        told.clear()
        lacking(program, []).append(None)
        self.assertEqual(book_of(program), in_order(before))
        self.assertEqual(len(lacking(program, [])), 1)

    def test_pages_of_states(self):
        program = small_program()
        states = named_states(program)
        self.assertEqual({page_of(state) for state in states}, set(book_of(program)))


if __name__ == "__main__":
    unittest.main()
