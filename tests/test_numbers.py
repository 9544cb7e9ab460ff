"""[25], [1] (b), (g): numbered books that show wishes, held against all moves and against the rules word by word."""

import random
import unittest

from maskedlevels.books import book_of
from maskedlevels.errors import BadArgument, BadWish
from maskedlevels.mends import is_met
from maskedlevels.numbers import is_proved, numbered
from maskedlevels.programs import Program
from tests.binding import (
    any_page, asked, begun_page, book_with, bound_at, ends_in, is_over, is_row, led_to, lefts, servable,
)
from tests.rounds import held_program, run_programs, waiting_program
from tests.test_mends import is_met_by
from tests.values import Refusals, odd_values, small_program
from tests.walks import any_store, few_program, in_order

PROGRAMS = 30


def numbered_wishes(program):
    """Wishes of the three sorts about a program."""
    wishes = [("served", line) for line in program.lines()]
    wishes.extend(("short", level, many) for level in range(1, program.levels + 1) for many in range(5))
    return wishes + [("shallow", many) for many in range(6)]


def shows(program, pairs, wish):
    """Whether pairs of unlike pages and numbers show a wish, word by word."""
    numbers = dict(pairs)
    pages = set(numbers)
    if len(pages) < len(pairs) or min(numbers.values(), default=0) < 0 or not asked(program, pages) <= pages:
        return False
    return {"served": shows_served, "short": shows_short, "shallow": shows_shallow}[wish[0]](program, numbers, wish)


def shows_served(program, numbers, wish):
    kept = {page for page in numbers if bound_at(program, page) >= program.line_of(wish[1])[0]}
    if any(page[0] is None and is_over(program, page) for page in kept):
        return False
    return all(numbers[behind] < numbers[page] for page in kept for behind in led_to(program, page) & kept)


def shows_short(program, numbers, wish):
    kept = {page for page in numbers if bound_at(program, page) >= wish[1]}
    ends = ends_in(program, numbers)
    for page in kept:
        if numbers[page] > wish[2] or (is_row(program, page) and numbers[page] < 1):
            return False
        rows = 1 if is_row(program, page) else 0
        if any(numbers[page] < rows + numbers[behind] for behind in led_to(program, page) & kept):
            return False
        if any(numbers[page] < numbers[behind] for behind in lefts(program, page, ends)):
            return False
    return True


def shows_shallow(program, numbers, wish):
    for page in numbers:
        first = begun_page(program, *page[:2])
        if first not in numbers or numbers[first] < len(page[2]):
            return False
        if any(numbers[first] < len(page[2]) + numbers[begun_page(program, line, page[3])] for line in servable(program, page)):
            return False
    return numbers[begun_page(program, None, program.first_store())] <= wish[1]


def with_number(pairs, page, number):
    return [(other, number if other == page else told) for other, told in pairs]


class WalkedTest(unittest.TestCase):
    """Wishes about many programs, against all states that their moves lead to."""

    @classmethod
    def setUpClass(cls):
        cls.programs = [(program, runs) for made in (few_program, held_program, waiting_program) for program, runs in run_programs(PROGRAMS, made, 250)]

    def test_a_wish_is_met_exactly_if_a_numbered_book_shows_it(self):
        counts = {}
        for program, runs in self.programs:
            book = book_of(program)
            for wish in numbered_wishes(program):
                met = is_met_by(runs, wish)
                pairs = numbered(program, wish)
                self.assertEqual(pairs is not None, met)
                self.assertIs(is_met(program, wish), met)
                counts[wish[0], met] = counts.get((wish[0], met), 0) + 1
                if pairs is None:
                    continue
                self.assertIs(type(pairs), list)
                self.assertEqual([page for page, _ in pairs], book)
                self.assertTrue(all(type(number) is int and number >= 0 for _, number in pairs))
                self.assertTrue(shows(program, pairs, wish))
                self.assertIs(is_proved(program, pairs, wish), True)
        self.assertEqual(len(counts), 6)
        self.assertGreater(min(counts.values()), 30, counts)

    def test_no_numbers_show_a_wish_that_is_not_met(self):
        for seed, (program, runs) in enumerate(self.programs):
            draw, book = random.Random(seed), book_of(program)
            for wish in numbered_wishes(program):
                if not is_met_by(runs, wish):
                    pairs = [(page, draw.choice([0, 1, 5, 9, len(book)])) for page in book]
                    self.assertIs(is_proved(program, pairs, wish), False)

    def test_a_number_that_is_bent(self):
        counts = {}
        for seed, (program, _) in enumerate(self.programs):
            draw = random.Random(seed)
            for wish in numbered_wishes(program):
                pairs = numbered(program, wish)
                if pairs is None:
                    continue
                for page, number in draw.sample(pairs, min(3, len(pairs))):
                    for other in (number + 1, number - 1, 0, draw.randint(0, 20)):
                        bent = with_number(pairs, page, other)
                        wanted = shows(program, bent, wish)
                        self.assertIs(is_proved(program, bent, wish), wanted)
                        counts[wish[0], wanted] = counts.get((wish[0], wanted), 0) + 1
        self.assertEqual(len(counts), 6)
        self.assertGreater(min(counts.values()), 30, counts)

    def test_pages_that_are_bent(self):
        for seed, (program, _) in enumerate(self.programs):
            draw = random.Random(seed)
            wishes = [wish for wish in numbered_wishes(program) if is_met(program, wish)]
            for wish in draw.sample(wishes, min(4, len(wishes))):
                pairs = numbered(program, wish)
                mixed = draw.sample(pairs, len(pairs))
                self.assertIs(is_proved(program, mixed, wish), True)
                self.assertIs(is_proved(program, tuple(mixed), wish), True)
                pair = draw.choice(pairs)
                self.assertIs(is_proved(program, [other for other in pairs if other != pair], wish), False)
                self.assertIs(is_proved(program, pairs + [pair], wish), False)
                self.assertIs(is_proved(program, pairs + [(pair[0], pair[1] + 1)], wish), False)
                more = pairs + [(any_page(draw, program, any_store), draw.randint(0, 3))]
                self.assertIs(is_proved(program, more, wish), shows(program, more, wish))

    def test_greater_books(self):
        counts = {True: 0, False: 0}
        for seed, (program, _) in enumerate(self.programs[::3]):
            draw = random.Random(seed)
            more = in_order(book_with(program, book_of(program) + [any_page(draw, program, any_store)]))
            for wish in numbered_wishes(program):
                found = dict(numbered(program, wish) or [])
                for numbers in ({}, found):
                    pairs = [(page, numbers.get(page, draw.randint(0, 6))) for page in more]
                    wanted = shows(program, pairs, wish)
                    counts[wanted] += 1
                    self.assertIs(is_proved(program, pairs, wish), wanted)
        self.assertGreater(min(counts.values()), 20, counts)


class Numbers:
    """Holds the numbers of single pages; mixed into tests."""

    def least(self, program, wish, numbers):
        """Numbers for the pages of the book that are right, each of them wrong if it is one less."""
        book = book_of(program)
        self.assertEqual(set(numbers) - set(book), set())
        pairs = [(page, numbers.get(page, 0)) for page in book]
        self.assertIs(is_proved(program, pairs, wish), True)
        for page, number in numbers.items():
            self.assertIs(is_proved(program, with_number(pairs, page, number - 1), wish), False, page)
        return pairs


class ServedTest(unittest.TestCase, Numbers):
    def made(self, rows, guards=None, lines=None):
        return Program(2, 2, {"x": 0}, {"serve": [], **rows}, {"t": (1, "serve")} if lines is None else lines, guards=guards)

    def at(self, point, mask=0, above=(), value=0):
        return (None, (0,), (("main", point, 0), *above), (value,), mask)

    def test_rows_with_such_a_bound(self):
        program = self.made({"main": [("keep",)] * 4}, guards={("main", 1): 1, ("main", 2): 2, ("main", 3): 1})
        pages = [(None, (0,), (("main", point, 0),), (0,), 0) for point in range(5)]
        self.least(program, ("served", "t"), {pages[1]: 2, pages[2]: 1, pages[3]: 0})

    def test_numbers_of_pages_with_less_bounds_may_be_anything(self):
        program = self.made({"main": [("keep",)] * 4}, guards={("main", 1): 1, ("main", 2): 2, ("main", 3): 1})
        pairs = numbered(program, ("served", "t"))
        for page, number in pairs:
            free = page[2][0][1] in (0, 4) and page[0] is None
            self.assertIs(is_proved(program, with_number(pairs, page, number + 100), ("served", "t")), free or page[2][0][1] == 1 or page[0] == "t")

    def test_the_end_of_the_main_procedure(self):
        for bound, met in [(0, True), (1, False), (2, False)]:
            program = self.made({"main": [("keep",)]}, guards={("main", 1): bound} if bound else None)
            self.assertEqual(numbered(program, ("served", "t")) is not None, met)
            for number in (0, 1, 9):
                pairs = [(page, number) for page in book_of(program)]
                self.assertIs(is_proved(program, pairs, ("served", "t")), met)
        program = self.made({"main": [("mask", 1)]})
        self.assertIsNone(numbered(program, ("served", "t")))

    def test_the_end_of_another_activation(self):
        # It returns, so that it leads to no page, and nothing is starved there.
        program = self.made({"main": [], "serve": [("raise", 2)]})
        self.least(program, ("served", "t"), {("t", (0,), (("serve", 0, 0),), (0,), 1): 1})

    def test_an_end_of_the_main_procedure_that_no_run_comes_to(self):
        program = self.made({"main": [("keep",)]})
        pairs = numbered(program, ("served", "t")) + [((None, (1,), (("main", 1, 0),), (0,), 1), 0)]
        self.assertIs(is_proved(program, pairs, ("served", "t")), False)
        pairs = numbered(program, ("served", "t")) + [((None, (1,), (("main", 1, 0),), (0,), 0), 0)]
        self.assertIs(is_proved(program, pairs, ("served", "t")), True)

    def test_calls_and_returns_lead_to_lesser_numbers(self):
        rows = {"main": [("mask", 1), ("call", "sub"), ("mask", 0)], "sub": [("keep",)]}
        program = self.made(rows)
        inside = [self.at(2, 1, (("sub", point, kept),)) for point, kept in ((0, 0), (1, 1))]
        self.least(program, ("served", "t"), {self.at(1, 1): 3, inside[0]: 2, inside[1]: 1, self.at(2, 1): 0})

    def test_rings_over_such_a_bound(self):
        rows = {"main": [("mask", 1), ("keep",), ("either", 1), ("mask", 0)]}
        self.assertIsNone(numbered(self.made(rows), ("served", "t")))
        rows = {"main": [("mask", 1), ("mask", 0), ("either", 0)]}
        self.assertIsNotNone(numbered(self.made(rows), ("served", "t")))

    def test_a_row_that_leads_to_the_same_page(self):
        for bound, met in [(0, True), (1, False)]:
            program = self.made({"main": [("go", 0)]}, guards={("main", 0): bound} if bound else None)
            self.assertEqual(numbered(program, ("served", "t")) is not None, met)
            for number in (0, 1, 5):
                pairs = [(page, number) for page in book_of(program)]
                self.assertIs(is_proved(program, pairs, ("served", "t")), met)

    def test_services_lead_to_no_lesser_number(self):
        lines = {"t": (1, "serve"), "u": (2, "serve")}
        program = self.made({"main": [("mask", 1), ("mask", 0)], "serve": [("add", "x", 1)]}, lines=lines)
        pairs = numbered(program, ("served", "t"))
        self.assertIsNotNone(pairs)
        self.assertIs(is_proved(program, [(page, 0 if page[0] is None else number) for page, number in pairs], ("served", "t")), True)

    def test_greater_numbers(self):
        program = self.made({"main": [("keep",)] * 2}, guards={("main", 0): 1, ("main", 1): 1})
        numbers = dict(numbered(program, ("served", "t")))
        for one, other, shown in [(1, 0, True), (10 ** 30, 0, True), (10 ** 30, 10 ** 30 - 1, True), (5, 5, False), (4, 5, False)]:
            numbers[self.at(0)], numbers[self.at(1)] = one, other
            self.assertIs(is_proved(program, list(numbers.items()), ("served", "t")), shown)

    def test_levels_of_lines(self):
        program = self.made({"main": [("go", 0)]}, {("main", 0): 1}, {"t": (1, "serve"), "u": (2, "serve")})
        self.assertIsNone(numbered(program, ("served", "t")))
        self.assertIsNotNone(numbered(program, ("served", "u")))


class ShortTest(unittest.TestCase, Numbers):
    def made(self, rows, guards=None, lines=None):
        return Program(2, 2, {"x": 0}, {"serve": [], **rows}, {"u": (2, "serve")} if lines is None else lines, guards=guards)

    def at(self, point, mask=0, above=(), value=0):
        return (None, (0,), (("main", point, 0), *above), (value,), mask)

    def test_rows_at_the_bound_itself_and_over_it(self):
        program = self.made({"main": [("keep",)] * 4}, {("main", 1): 1, ("main", 2): 2})
        numbers = {self.at(1): 2, self.at(2): 1}
        self.least(program, ("short", 1, 2), numbers)
        self.assertIsNone(numbered(program, ("short", 1, 1)))
        self.assertIsNotNone(numbered(program, ("short", 2, 1)))
        self.assertIsNone(numbered(program, ("short", 2, 0)))

    def test_many_of_0(self):
        # With such a bound at the end alone, nothing is done there.
        program = self.made({"main": [("keep",)]}, {("main", 1): 2}, {})
        pairs = numbered(program, ("short", 1, 0))
        self.assertEqual(pairs, [(page, 0) for page in book_of(program)])
        self.assertIs(is_proved(program, with_number(pairs, self.at(1), 1), ("short", 1, 0)), False)
        self.assertIs(is_proved(program, with_number(pairs, self.at(0), 1), ("short", 1, 0)), True)
        self.assertIsNone(numbered(self.made({"main": [("keep",)]}, {("main", 0): 2}, {}), ("short", 1, 0)))

    def test_a_row_that_leads_to_a_lesser_bound_counts(self):
        program = self.made({"main": [("mask", 1), ("mask", 0), ("keep",)]})
        self.least(program, ("short", 1, 1), {self.at(1, 1): 1})

    def test_calls_count_and_returns_do_not(self):
        program = self.made({"main": [("mask", 1), ("call", "sub"), ("mask", 0)], "sub": [("set", "x", 0)]})
        inside = [self.at(2, 1, (("sub", point, 0),)) for point in (0, 1)]
        self.least(program, ("short", 1, 3), {self.at(1, 1): 3, inside[0]: 2, inside[1]: 1, self.at(2, 1): 1})

    def test_services_do_not_count_but_change_the_store(self):
        rows = {"main": [("mask", 1), ("if", "x", 0, 4), ("set", "x", 0), ("set", "x", 0), ("mask", 0)], "serve": [("set", "x", 1)]}
        program = self.made(rows, {("main", point): 2 for point in (0, 2, 3, 4, 5)} | {("serve", 0): 2})
        pairs = numbered(program, ("short", 1, 5))
        numbers = dict(pairs)
        self.assertEqual(numbers[self.at(1, 1)], numbers[self.at(1, 1, value=1)])
        self.assertIs(is_proved(program, with_number(pairs, self.at(1, 1), numbers[self.at(1, 1)] - 1), ("short", 1, 5)), False)

    def test_the_rows_of_a_line_do_not_count_below_it(self):
        rows = {"main": [("mask", 1), ("mask", 0)], "serve": [("keep",)] * 6}
        program = self.made(rows)
        numbers = dict(numbered(program, ("short", 1, 6)))
        self.assertEqual([number for page, number in numbers.items() if page[0] is None and page[4] == 1], [1])
        self.assertEqual(numbers[("u", (0,), (("serve", 0, 0),), (0,), 2)], 6)

    def test_rings_of_rows_and_rings_of_services(self):
        self.assertIsNone(numbered(self.made({"main": [("mask", 1), ("go", 1)]}), ("short", 1, 10 ** 6)))
        # Services lead back to where they were, with no row of the stretch.
        rows = {"main": [("mask", 1), ("mask", 0)], "serve": [("add", "x", 1)]}
        self.assertIsNotNone(numbered(self.made(rows), ("short", 1, 1)))

    def test_numbers_up_to_many(self):
        program = self.made({"main": [("keep",)] * 2}, {("main", 0): 1})
        numbers = dict(numbered(program, ("short", 1, 7)))
        for number, shown in [(0, False), (1, True), (7, True), (8, False)]:
            numbers[self.at(0)] = number
            self.assertIs(is_proved(program, list(numbers.items()), ("short", 1, 7)), shown)


class ShallowTest(unittest.TestCase, Numbers):
    def setUp(self):
        rows = {"main": [("call", "sub"), ("keep",)], "sub": [("call", "low")], "low": [], "one": [("call", "low")], "two": []}
        self.program = Program(2, 2, {"x": 0}, rows, {"t": (1, "one"), "u": (2, "two")})
        self.first = (None, (0,), (("main", 0, 0),), (0,), 0)
        self.lines = [("t", (0,), (("one", 0, 0),), (0,), 1), ("u", (0,), (("two", 0, 0),), (0,), 2)]

    def test_frames_of_calls_and_of_lines_on_them(self):
        self.least(self.program, ("shallow", 6), {self.first: 6, self.lines[0]: 3, self.lines[1]: 1})
        for many in range(6):
            self.assertIsNone(numbered(self.program, ("shallow", many)))

    def test_guards_make_it_less_deep(self):
        program = self.program.with_guards({("low", 0): 2})
        self.least(program, ("shallow", 4), {self.first: 4, self.lines[0]: 2, self.lines[1]: 1})
        program = self.program.with_guards({("low", 0): 2, ("sub", 0): 2, ("sub", 1): 2})
        self.least(program, ("shallow", 3), {self.first: 3, self.lines[0]: 2, self.lines[1]: 1})

    def test_other_pages_may_have_any_number(self):
        pairs = numbered(self.program, ("shallow", 6))
        firsts = [self.first, *self.lines]
        for page, number in pairs:
            for other in (0, 1, 100):
                if page not in firsts:
                    self.assertIs(is_proved(self.program, with_number(pairs, page, other), ("shallow", 6)), True)

    def test_greater_numbers(self):
        pairs = numbered(self.program, ("shallow", 10))
        self.assertIs(is_proved(self.program, with_number(pairs, self.first, 10), ("shallow", 10)), True)
        self.assertIs(is_proved(self.program, with_number(pairs, self.first, 11), ("shallow", 10)), False)
        # What a line is numbered with counts below it, whether it is so deep or not.
        deeper = with_number(pairs, self.lines[0], 4)
        self.assertIs(is_proved(self.program, deeper, ("shallow", 10)), False)
        self.assertIs(is_proved(self.program, with_number(deeper, self.first, 7), ("shallow", 10)), True)

    def test_pages_without_the_first_page_of_their_activation(self):
        other = ("u", (1,), (("two", 0, 0),), (0,), 2)
        pairs = numbered(self.program, ("shallow", 6)) + [(other, 1)]
        self.assertEqual(asked(self.program, {page for page, _ in pairs}) - {page for page, _ in pairs}, set())
        self.assertIs(is_proved(self.program, pairs, ("shallow", 6)), False)
        self.assertIs(is_proved(self.program, pairs, ("served", "t")), shows(self.program, pairs, ("served", "t")))
        begun = ("u", (1,), (("two", 0, 0),), (1,), 2)
        for number, shown in [(0, False), (1, True), (9, True)]:
            self.assertIs(is_proved(self.program, pairs + [(begun, number)], ("shallow", 6)), shown)

    def test_many_of_0(self):
        program = Program(1, 2, {"x": 0}, {"main": []}, {})
        self.assertIsNone(numbered(program, ("shallow", 0)))
        self.assertEqual(numbered(program, ("shallow", 1)), [((None, (0,), (("main", 0, 0),), (0,), 0), 1)])


class RefusedTest(unittest.TestCase, Refusals):
    def setUp(self):
        self.program = small_program()
        self.wishes = [("served", "ring"), ("short", 1, 9), ("shallow", 9)]

    def test_programs_then_wishes(self):
        place = ("main", 0, 0, (0, 1, 0), 0, 0)
        wrong = [
            ("never", place), ("unseen", "main", 0, 0), ("apart", "s"), ("clean", "main"), ("bound", "main", 0), ("served", "main"), ("served", None),
            ("served",), ("short", 0, 1), ("short", 3, 1), ("short", 1, -1), ("short", 1, True), ("short", 1), ("shallow", -1), ("shallow", True),
            ("shallow",), ("shallow", 1, 1), ["shallow", 1], "shallow", ("deep", 1), *odd_values(),
        ]
        for value in odd_values():
            self.refuses(BadArgument, value, numbered, value, ("shallow", 9))
            self.refuses(BadArgument, value, numbered, value, None)
            self.refuses(BadArgument, value, is_proved, value, [], ("shallow", 9))
            self.refuses(BadArgument, value, is_proved, value, None, None)
        for wish in wrong:
            self.refuses(BadWish, wish, numbered, self.program, wish)
            self.refuses(BadWish, wish, is_proved, self.program, [], wish)
            self.refuses(BadWish, wish, is_proved, self.program, None, wish)

    def test_values_of_any_kind(self):
        for wish in self.wishes:
            pairs = numbered(self.program, wish)
            self.assertIs(is_proved(self.program, pairs, wish), True)
            page, number = pairs[0]
            rest = pairs[1:]
            for pair in [(page, -1), (page, True), (page, 1.0), (page, None), (page,), (page, number, 0), [page, number], (list(page), number), (None, 0)]:
                self.assertIs(is_proved(self.program, [pair, *rest], wish), False)
            for odd in odd_values():
                self.assertIs(is_proved(self.program, odd, wish), False)
                self.assertIs(is_proved(self.program, [*pairs, odd], wish), False)
                self.assertIs(is_proved(self.program, [(odd, number), *rest], wish), False)
                if type(odd) is not int or odd < 0:
                    self.assertIs(is_proved(self.program, [(page, odd), *rest], wish), False)
            for value in (dict(pairs), set(pairs), iter(pairs), [page for page, _ in pairs], [], ()):
                self.assertIs(is_proved(self.program, value, wish), False)

    def test_what_was_given_stays(self):
        pairs = numbered(self.program, ("shallow", 9))[::-1]
        before = list(pairs)
        is_proved(self.program, pairs, ("shallow", 9))
        self.assertEqual(pairs, before)
        numbered(self.program, ("shallow", 9)).clear()
        self.assertEqual(numbered(self.program, ("shallow", 9)), sorted(before, key=str))


if __name__ == "__main__":
    unittest.main()
