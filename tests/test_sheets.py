"""[32], [1] (h): places, entries, tables and claims as texts, there and back."""

import random
import unittest

from maskedlevels.errors import BadArgument, BadText
from maskedlevels.programs import Program
from maskedlevels.sheets import (
    read_claim, read_entry, read_place, read_table, write_claim, write_entry, write_place, write_table,
)
from maskedlevels.tables import table_of
from tests.test_claims import claims_about
from tests.values import Refusals, odd_values
from tests.walks import any_entry, any_place, few_program, walked_programs

SIGNS = "abcmnstx0123456789:. -+_\n\t\u00e9\u0660"
SPACES = ("\n", " ", "\t", "\r", "\u00a0", "\x0b")


def place_text(place):
    """The word of a place, by hand."""
    procedure, point, kept, store, mask, floor = place
    return "%s:%d:%d:%s:%d:%d" % (procedure, point, kept, ".".join(str(value) for value in store), mask, floor)


def entry_text(entry):
    """The word of an entry, by hand."""
    (procedure, floor, first, least), point, kept, store, mask = entry
    stores = [".".join(map(str, values)) for values in (first, store)]
    return "%s:%d:%s:%d:%d:%d:%s:%d" % (procedure, floor, stores[0], least, point, kept, stores[1], mask)


def changed(draw, text):
    """The text with one sign changed, left out or put in."""
    at, sign = draw.randint(0, len(text)), draw.choice(SIGNS)
    return draw.choice([text[:at] + sign + text[at + 1:], text[:at] + text[at + 1:], text[:at] + sign + text[at:]])


class ThereAndBackTest(unittest.TestCase, Refusals):
    """Things of many programs, and their texts with one sign changed."""

    def setUp(self):
        self.counts = {True: 0, False: 0}

    def holds_changed(self, draw, program, text, read, write):
        """A text that is changed is read only if it is written so."""
        for _ in range(6):
            other = changed(draw, text)
            try:
                value = read(program, other)
            except BadText as error:
                self.assertIs(error.at, other)
                self.counts[False] += 1
                continue
            self.assertEqual(write(program, value), other)
            self.counts[True] += 1

    def test_places_and_entries(self):
        for seed in range(200):
            draw, program = random.Random(seed), few_program(seed)
            for value, text, write, read in [
                (any_place(draw, program), place_text, write_place, read_place), (any_entry(draw, program), entry_text, write_entry, read_entry),
            ]:
                word = write(program, value)
                self.assertEqual(word, text(value))
                self.assertEqual(read(program, word), value)
                self.holds_changed(draw, program, word, read, write)
        self.assertGreater(min(self.counts.values()), 50, self.counts)

    def test_claims(self):
        sorts = set()
        for seed, (program, found) in enumerate(walked_programs(60)):
            draw = random.Random(seed)
            for claim in claims_about(draw, program, found):
                text = write_claim(program, claim)
                wanted = "never " + place_text(claim[1]) if claim[0] == "never" else " ".join(map(str, claim))
                self.assertEqual(text, wanted)
                self.assertEqual(read_claim(program, text), claim)
                self.holds_changed(draw, program, text, read_claim, write_claim)
                sorts.add(claim[0])
        self.assertEqual(len(sorts), 5)
        self.assertGreater(min(self.counts.values()), 100, self.counts)

    def test_tables(self):
        for seed, (program, found) in enumerate(walked_programs(60)):
            draw = random.Random(seed)
            table = table_of(program)
            mixed = draw.sample(table, len(table)) + table[:2] + [any_entry(draw, program)]
            for value in (table, mixed, [], table[:1]):
                text = write_table(program, value)
                self.assertEqual(text, "".join(entry_text(entry) + "\n" for entry in value))
                self.assertEqual(read_table(program, text), value)
                self.assertEqual(write_table(program, tuple(value)), text)
                self.assertIs(type(read_table(program, text)), list)

    def test_tables_with_one_sign_changed(self):
        for seed, (program, found) in enumerate(walked_programs(60)):
            draw, table = random.Random(seed), table_of(program)
            text = write_table(program, draw.sample(table, min(6, len(table))))
            for _ in range(8):
                other = changed(draw, text)
                lines = other.split("\n")
                wrong = [at + 1 for at, line in enumerate(lines[:-1]) if not self.is_entry_word(program, line)]
                wrong.extend([len(lines)] if lines[-1] else [])
                self.counts[not wrong] += 1
                if not wrong:
                    self.assertEqual(write_table(program, read_table(program, other)), other)
                    continue
                with self.assertRaises(BadText) as caught:
                    read_table(program, other)
                self.assertEqual(caught.exception.at, wrong[0])
        self.assertGreater(min(self.counts.values()), 5, self.counts)

    def is_entry_word(self, program, word):
        try:
            read_entry(program, word)
        except BadText:
            return False
        return True


class TextsTest(unittest.TestCase, Refusals):
    def setUp(self):
        rows = {"main": [("look", "a")] * 12 + [("open", "s")], "sub": []}
        self.program = Program(2, 3, {"a": 1, "b": 2}, rows, {"t": (1, "sub")})
        self.place = ("main", 10, 2, (1, 2, 0), 1, 0)
        self.entry = (("sub", 1, (0, 0, 1), 2), 0, 1, (2, 1, 0), 1)

    def test_the_words_of_the_document(self):
        self.assertEqual(write_place(self.program, self.place), "main:10:2:1.2.0:1:0")
        self.assertEqual(write_entry(self.program, self.entry), "sub:1:0.0.1:2:0:1:2.1.0:1")
        self.assertEqual(write_table(self.program, [self.entry, self.entry]), "sub:1:0.0.1:2:0:1:2.1.0:1\n" * 2)
        for claim, text in [
            (("never", self.place), "never main:10:2:1.2.0:1:0"), (("unseen", "main", 11, 2), "unseen main 11 2"), (("apart", "s"), "apart s"),
            (("clean", "sub"), "clean sub"), (("bound", "main", 0), "bound main 0"),
        ]:
            self.assertEqual(write_claim(self.program, claim), text)
            self.assertEqual(read_claim(self.program, text), claim)
        other = Program(1, 2, {"x": 0, "y": 1}, {"main": []}, {})
        self.assertEqual(write_claim(other, ("never", ("main", 0, 0, (0, 1), 0, 0))), "never main:0:0:0.1:0:0")
        self.assertEqual(write_place(Program(1, 2, {"x": 0}, {"main": []}, {}), ("main", 0, 0, (1,), 0, 0)), "main:0:0:1:0:0")

    def test_the_names_of_the_parameters(self):
        self.assertEqual(write_place(place=self.place, program=self.program), "main:10:2:1.2.0:1:0")
        self.assertEqual(read_place(word="main:10:2:1.2.0:1:0", program=self.program), self.place)
        self.assertEqual(write_entry(entry=self.entry, program=self.program), "sub:1:0.0.1:2:0:1:2.1.0:1")
        self.assertEqual(read_entry(word="sub:1:0.0.1:2:0:1:2.1.0:1", program=self.program), self.entry)
        self.assertEqual(write_table(table=(self.entry,), program=self.program), "sub:1:0.0.1:2:0:1:2.1.0:1\n")
        self.assertEqual(read_table(text="sub:1:0.0.1:2:0:1:2.1.0:1\n", program=self.program), [self.entry])
        self.assertEqual(write_claim(claim=("apart", "s"), program=self.program), "apart s")
        self.assertEqual(read_claim(text="apart s", program=self.program), ("apart", "s"))

    def test_the_empty_table(self):
        for table in ([], ()):
            self.assertEqual(write_table(self.program, table), "")
        self.assertEqual(read_table(self.program, ""), [])

    def test_words_that_are_none(self):
        wrong = [
            "", "main", "main:10:2:1.2.0:1", "main:10:2:1.2.0:1:0:0", "main:010:2:1.2.0:1:0", "main:10:02:1.2.0:1:0", "main:10:2:1.02.0:1:0", "main:10:2:1.2.0:01:0",
            "main:10:2:1.2.0:1:00", "main:14:2:1.2.0:1:0", "main:-1:2:1.2.0:1:0", "main:+1:2:1.2.0:1:0", "main:1_0:2:1.2.0:1:0", "main:10:3:1.2.0:1:0",
            "main:10:2:1.2.2:1:0", "main:10:2:1.3.0:1:0", "main:10:2:1.2:1:0", "main:10:2:1.2.0.0:1:0", "main:10:2:1..0:1:0", "main:10:2:.1.2.0:1:0",
            "main:10:2:1.2.0.:1:0", "main:10:2::1:0", "main:10:2:120:1:0", "main:10:2:1,2,0:1:0", "main:10:2:1.2.0:3:0", "main:10:2:1.2.0:0:1", "other:0:0:1.2.0:0:0",
            "t:0:0:1.2.0:1:1", "Main:10:2:1.2.0:1:0", "main:10:2:1.2.0:1:\u0660", "main:1\u0660:2:1.2.0:1:0", "main:10.0:2:1.2.0:1:0", ":10:2:1.2.0:1:0",
            "main::2:1.2.0:1:0", "main 10 2 1.2.0 1 0", "main;10;2;1.2.0;1;0",
        ]
        for sign in SPACES:
            wrong.extend(["main:10:2:1.2.0:1:0" + sign, sign + "main:10:2:1.2.0:1:0", "main:10:" + sign + "2:1.2.0:1:0", "main:10:2:1." + sign + "2.0:1:0"])
        for word in wrong + odd_values():
            self.refuses(BadText, word, read_place, self.program, word)
            self.refuses(BadText, word, read_entry, self.program, word)
        wrong = [
            "sub:1:0.0.1:2:0:1:2.1.0", "sub:1:0.0.1:0:0:1:2.1.0:1", "sub:1:0.0.1:2:0:1:2.1.0:0", "sub:3:0.0.1:3:0:1:2.1.0:3", "sub:1:0.0.1:2:1:1:2.1.0:1",
            "sub:01:0.0.1:2:0:1:2.1.0:1", "sub:1:0.0.1:2:0:1:2.1.0:1:0", "sub:1:0.0.2:2:0:1:2.1.0:1", "sub:1:0.0.1:2:0:1:2.1.0:1 ", "sub:1:0.0.1:2:0:1:2.1.0:1\n",
            "sub:1:2:0.0.1:0:1:2.1.0:1", "sub:1:0.0.1:2:0.0:1:2.1.0:1",
        ]
        for word in wrong:
            self.refuses(BadText, word, read_entry, self.program, word)

    def test_claims_that_are_none(self):
        wrong = [
            "", "never", "never ", "never main", "never main:10:2:1.2.0:1:0 ", "never  main:10:2:1.2.0:1:0", "Never main:10:2:1.2.0:1:0", "never main:14:2:1.2.0:1:0",
            "never main 10 2 1.2.0 1 0", "unseen main 11", "unseen main 12 2", "unseen main 13 2", "unseen main 11 3", "unseen main 011 2", "unseen main 11 02",
            "unseen main 11 2 0", "unseen sub 0 0", "unseen main 11 -1", "apart", "apart a", "apart r", "apart s s", "apart  s", "clean", "clean t", "clean main 1",
            "clean main\n", "bound main", "bound main 3", "bound main 00", "bound main 01", "bound main -1", "bound other 0", "served t", "short 1 1", "shallow 3",
            "none", "apart:s", "clean,main", "apart\ts", " apart s", "bound main 1\u00a0", "bound main \u0661",
        ]
        for text in wrong + odd_values():
            self.refuses(BadText, text, read_claim, self.program, text)

    def test_lines_of_tables(self):
        line = "sub:1:0.0.1:2:0:1:2.1.0:1"
        for text, at in [
            (line, 1), (f"{line}\n{line}", 2), (f"{line}\n{line}\n ", 3), ("\n", 1), (f"\n{line}\n", 1), (f"{line}\n\n", 2), (f"{line}\n\n{line}\n", 2),
            (f"{line} \n", 1), (f"{line}\n{line}x\n{line}", 2), (f"{line}\r\n", 1), (" ", 1), ("x", 1), (f"{line}\n" * 9 + "x\n", 10), (f"{line}\n0\n1\n", 2),
            (f"{line}\x0b{line}\n", 1), (f"{line}\u2028{line}\n", 1), (f"{line}:\n", 1),
        ]:
            with self.assertRaises(BadText) as caught:
                read_table(self.program, text)
            self.assertIs(type(caught.exception.at), int)
            self.assertEqual(caught.exception.at, at)
        self.assertEqual(read_table(self.program, f"{line}\n{line}\n"), [self.entry] * 2)

    def test_what_is_no_text_of_a_table(self):
        for value in odd_values() + [[self.entry], b"", ["sub:1:0.0.1:2:0:1:2.1.0:1\n"]]:
            if type(value) is not str:
                with self.assertRaises(BadText) as caught:
                    read_table(self.program, value)
                self.assertEqual((type(caught.exception.at), caught.exception.at), (int, 0))

    def test_what_is_no_thing_of_the_program(self):
        small = Program(2, 3, {"a": 0}, {"main": [], "sub": []}, {})
        for write, value in [(write_place, self.place), (write_entry, self.entry), (write_table, [self.entry]), (write_claim, ("never", self.place))]:
            self.assertIs(type(write(self.program, value)), str)
            self.refuses(BadArgument, value, write, small, value)
            for odd in odd_values():
                self.refuses(BadArgument, odd, write, odd, value)
                self.refuses(BadArgument, odd, write, odd, None)
                if write is not write_table or str(odd) not in ("[]", "()"):
                    self.refuses(BadArgument, odd, write, self.program, odd)
        place, entry = self.place, self.entry
        for at in range(6):
            for odd in odd_values():
                value = place[:at] + (odd,) + place[at + 1:]
                self.refuses(BadArgument, value, write_place, self.program, value)
                claim = ("never", value)
                self.refuses(BadArgument, claim, write_claim, self.program, claim)
        for at in range(5):
            for odd in odd_values():
                value = entry[:at] + (odd,) + entry[at + 1:]
                self.refuses(BadArgument, value, write_entry, self.program, value)
                table = [entry, value]
                self.refuses(BadArgument, table, write_table, self.program, table)
        for value in [("served", "t"), ("short", 1, 1), ("shallow", 2), ("clean", "t"), ["clean", "main"], ("bound", "main", True)]:
            self.refuses(BadArgument, value, write_claim, self.program, value)
        for value in [{entry: 1}, {entry}, iter([entry]), entry]:
            self.refuses(BadArgument, value, write_table, self.program, value)

    def test_programs_when_read(self):
        for read in (read_place, read_entry, read_table, read_claim):
            for odd in odd_values():
                self.refuses(BadArgument, odd, read, odd, "")
                self.refuses(BadArgument, odd, read, odd, None)

    def test_what_was_given_stays(self):
        table = [self.entry, self.entry]
        text = write_table(self.program, table)
        self.assertEqual(table, [self.entry] * 2)
        read_table(self.program, text).clear()
        self.assertEqual(read_table(self.program, text), table)


if __name__ == "__main__":
    unittest.main()
