"""The notes of the interface: moves, scripts and programs as texts."""

import random
import re
import unittest

from maskedlevels.errors import BadArgument, BadText
from maskedlevels.machine import Machine
from maskedlevels.notes import read_move, read_program, read_script, write_move, write_program, write_script
from maskedlevels.programs import Program
from tests.plain import any_program
from tests.values import odd_values, small_parts, small_program
from tests.walks import few_program

MOVE = "(serve:[a-z]{1,8}|row:[0-9])"
SCRIPT = f"(none|{MOVE}( {MOVE})*)"
SIGNS = [" ", ":", "0", "1", "9", "a", "A", "_", "-", "+", "\n", "\t", "\u0661", "\u00e9", "\u00a0", ".", ",", "\x00"]


def one_sign_away(text):
    """All texts that are one sign away from a text: one more, one less, one other, two exchanged."""
    found = set()
    for at in range(len(text) + 1):
        found.update(text[:at] + sign + text[at:] for sign in SIGNS)
        found.update(text[:at] + sign + text[at + 1:] for sign in SIGNS)
        found.add(text[:at] + text[at + 1:])
        found.add(text[:at] + text[at + 1:at + 2] + text[at:at + 1] + text[at + 2:])
    return sorted(found - {text})


def no_texts():
    """Values that are no text of the notes."""
    return odd_values() + [b"row:0", b"none", ("row", 0), [("row", 0)], ["none"], bytearray(b"row:0")]


class NotesTest(unittest.TestCase):
    def refuses(self, error, value, told, *args):
        with self.assertRaises(error) as caught:
            told(*args)
        self.assertIs(type(caught.exception), error)
        self.assertIs(caught.exception.at if error is BadText else caught.exception.value, value)


class MovesTest(NotesTest):
    def test_moves(self):
        for line in ("a", "tick", "abcdefgh", "none", "row", "serve", "z"):
            self.assertEqual(write_move(("serve", line)), "serve:" + line)
            self.assertEqual(read_move("serve:" + line), ("serve", line))
        for choice in range(10):
            self.assertEqual(write_move(move=("row", choice)), f"row:{choice}")
            self.assertEqual(read_move(word=f"row:{choice}"), ("row", choice))
            self.assertIs(type(read_move(f"row:{choice}")[1]), int)

    def test_moves_that_are_not_written(self):
        wrong = [("row", 10), ("row", -1), ("row", 10 ** 5000), ("row", "0"), ("serve", 0), ("serve", "T"), ("serve", "abcdefghi"),
                 ("serve", ""), ("serve", "a b"), ["row", 0], ["serve", "t"], ("row",), ("row", 0, 0), ("Row", 0), "row:0", "serve:t"]
        for odd in odd_values():
            wrong.extend([("row", odd), ("serve", odd), (odd, 0), (odd, "t"), (odd, odd)])
        for value in wrong + odd_values():
            self.refuses(BadArgument, value, write_move, value)

    def test_words_that_are_no_moves(self):
        wrong = ["", "row", "row:", "serve", "serve:", ":", ":0", ":t", "row:00", "row:01", "row:10", "row:-1", "row:+1", "row: 1",
                 "row:1 ", " row:1", "row:1\n", "row :1", "row::1", "row:1:", "row:t", "row:1:1", "ROW:1", "Row:1", "rows:1", "serve:T",
                 "serve:t ", "serve:t\n", "serve::t", "serve:t:", "serve:abcdefghi", "serve:t1", "serve:1", "serve:\u00e9", "row:\u0661",
                 "row:\u00b2", "none", "serve:t serve:t", "row:1 row:1", "row:1.0", "row:0x1", "row:1_0", "serve:t\r", "serve:\nt"]
        for value in wrong + no_texts():
            self.refuses(BadText, value, read_move, value)

    def test_each_word_one_sign_away(self):
        for word in ("row:0", "row:9", "serve:t", "serve:tick", "serve:abcdefgh"):
            self.assertEqual(write_move(read_move(word)), word)
            for other in one_sign_away(word):
                if re.fullmatch(MOVE, other) and not other.endswith("\n"):
                    self.assertEqual(write_move(read_move(other)), other)
                else:
                    self.refuses(BadText, other, read_move, other)


class ScriptsTest(NotesTest):
    def test_scripts(self):
        moves = [("row", choice) for choice in range(10)] + [("serve", "tick"), ("serve", "none")]
        for script in ([], moves[:1], moves[-1:], moves, moves + moves[::-1]):
            words = " ".join([f"{kind}:{what}" for kind, what in script]) or "none"
            self.assertEqual(write_script(script), words)
            self.assertEqual(read_script(words), script)
        self.assertEqual(write_script(script=[("row", 2), ("serve", "t")]), "row:2 serve:t")
        self.assertEqual(read_script(text="row:2 serve:t"), [("row", 2), ("serve", "t")])
        self.assertEqual((write_script([]), read_script("none")), ("none", []))

    def test_scripts_of_machines(self):
        for seed in range(50):
            draw, machine, script = random.Random(seed), Machine(any_program(seed)), []
            while machine.moves() and len(script) < 20:
                script.append(draw.choice(machine.moves()))
                machine(script[-1])
            self.assertEqual(read_script(write_script(script)), script)

    def test_scripts_that_are_not_written(self):
        for value in odd_values() + [(("row", 0),), "none", "row:0", ("row", 0), {("row", 0): 1}, iter([("row", 0)])]:
            if type(value) is not list:
                self.refuses(BadArgument, value, write_script, value)
        for value in odd_values() + [("row", 10), ("row", -1), ("serve", "T"), ["row", 0], "row:0", ("row", True)]:
            for script in ([value], [("row", 0), value], [("serve", "t"), value, ("row", 10), None]):
                self.refuses(BadArgument, value, write_script, script)

    def test_texts_that_are_no_scripts(self):
        wrong = ["", " ", "none ", " none", "none none", "None", "none:", "none\n", "row:1 none", "none row:1", "row:1  row:1",
                 "row:1 ", " row:1", "row:1\n", "row:1\nrow:1", "row:1,row:1", "row:1\trow:1", "row:1 row", "row:1 row:10", "serve:t serve:T",
                 "[]", "row:1 serve:t\n"]
        for value in wrong + no_texts():
            self.refuses(BadText, value, read_script, value)

    def test_each_text_one_sign_away(self):
        for text in ("none", "row:0", "row:0 serve:t row:1", "serve:a serve:b"):
            for other in one_sign_away(text):
                if re.fullmatch(SCRIPT, other) and not other.endswith("\n"):
                    self.assertEqual(write_script(read_script(other)), other)
                else:
                    self.refuses(BadText, other, read_script, other)

    def test_lists_belong_to_the_caller(self):
        script = [("row", 0), ("serve", "t")]
        write_script(script)
        self.assertEqual(script, [("row", 0), ("serve", "t")])
        for text in ("none", "row:0"):
            read_script(text).append(("row", 1))
            self.assertEqual(write_script(read_script(text)), text)


def every_row():
    """A program with every sort of row, points of two figures, guards at ends, and empty procedures."""
    main = [
        ("set", "x", 1), ("copy", "x", "y"), ("add", "y", 2), ("any", "y"), ("look", "x"), ("if", "x", 1, 17), ("go", 7),
        ("either", 12), ("call", "sub"), ("raise", 2), ("mask", 0), ("save", "x"), ("load", "y"), ("keep",), ("give",),
        ("open", "half"), ("close", "half"),
    ]
    guards = {("main", 17): 1, ("main", 2): 3, ("main", 10): 2, ("main", 9): 1, ("sub", 0): 3, ("clock", 1): 2}
    procedures = {"sub": [], "main": main, "clock": [("copy", "y", "x")], "bare": []}
    lines = {"tick": (1, "clock"), "ring": (3, "bare"), "beat": (3, "clock")}
    return Program(3, 4, {"y": 3, "x": 0}, procedures, lines, guards=guards)


EVERY = (
    "levels:3 size:4 main:main cell:x:0 cell:y:3 line:beat:3:clock line:ring:3:bare line:tick:1:clock"
    " guard:clock:1:2 guard:main:2:3 guard:main:9:1 guard:main:10:2 guard:main:17:1 guard:sub:0:3"
    " proc:bare proc:clock copy:y:x proc:main set:x:1 copy:x:y add:y:2 any:y look:x if:x:1:17 go:7 either:12 call:sub"
    " raise:2 mask:0 save:x load:y keep give open:half close:half proc:sub"
)


class ProgramsTest(NotesTest):
    def test_every_sort_of_row(self):
        self.assertEqual(write_program(every_row()), EVERY)
        self.assertEqual(write_program(program=every_row()), EVERY)
        self.assertEqual(read_program(EVERY), every_row())
        self.assertEqual(read_program(note=EVERY), every_row())

    def test_the_least_program(self):
        program = Program(1, 2, {"x": 0}, {"a": []}, {}, "a")
        self.assertEqual(write_program(program), "levels:1 size:2 main:a cell:x:0 proc:a")
        self.assertEqual(read_program("levels:1 size:2 main:a cell:x:0 proc:a"), program)

    def test_a_small_program(self):
        note = ("levels:2 size:3 main:main cell:x:0 cell:y:1 line:alarm:2:clock line:ring:2:bell line:tick:1:clock guard:clock:0:2"
                " guard:main:4:1 proc:bell proc:clock copy:x:y proc:main set:x:1 open:s call:sub close:s proc:sub add:y:2")
        self.assertEqual(write_program(small_program()), note)

    def test_many_programs(self):
        for seed in range(200):
            for program in (any_program(seed), few_program(seed)):
                note = write_program(program)
                self.assertEqual(read_program(note), program)
                self.assertEqual(write_program(read_program(note)), note)

    def test_equal_programs_have_the_same_note(self):
        parts = small_parts()
        turned = {part: dict(reversed(list(parts[part].items()))) for part in ("start", "procedures", "lines", "guards")}
        self.assertEqual(write_program(small_program(**turned)), write_program(small_program()))
        self.assertEqual(write_program(small_program(guards=None)), write_program(small_program(guards={})))

    def test_what_is_no_program(self):
        for value in odd_values() + [EVERY]:
            self.refuses(BadArgument, value, write_program, value)

    def test_what_is_no_text(self):
        for value in no_texts() + [EVERY.encode(), [EVERY], EVERY.split(" "), every_row()]:
            self.refuses(BadText, value, read_program, value)

    def read_or_refused(self, note):
        """Whether a text is read; then it is exactly what is written of what was read."""
        try:
            program = read_program(note)
        except BadText as error:
            self.assertIs(error.at, note)
            return False
        self.assertEqual(write_program(program), note)
        return True

    def test_words_left_out_twice_and_exchanged(self):
        words = EVERY.split(" ")
        first_row = words.index("proc:bare")
        for at, word in enumerate(words):
            self.assertFalse(word in words[:at])
            head = word.split(":")[0]
            left_out = " ".join(words[:at] + words[at + 1:])
            # Without a line or a guard it is another program; without any other word its points or names are wrong.
            self.assertEqual(self.read_or_refused(left_out), head in ("line", "guard"), word)
            self.assertFalse(head in ("line", "guard") and read_program(left_out) == every_row())
            twice = " ".join(words[:at + 1] + words[at:])
            self.assertEqual(self.read_or_refused(twice), at > first_row and head != "proc", word)
        for at in range(first_row):
            exchanged = words[:at] + [words[at + 1], words[at]] + words[at + 2:]
            self.assertFalse(self.read_or_refused(" ".join(exchanged)))
            self.assertFalse(self.read_or_refused(" ".join(words[:at] + words[at + 1:] + [words[at]])))

    def test_rows_in_another_order_are_another_program(self):
        words = EVERY.split(" ")
        at = words.index("set:x:1")
        other = " ".join(words[:at] + [words[at + 1], words[at]] + words[at + 2:])
        self.assertTrue(self.read_or_refused(other))
        self.assertNotEqual(read_program(other), every_row())

    def test_each_note_one_sign_away(self):
        read = 0
        for program in (every_row(), small_program()):
            note = write_program(program)
            for other in one_sign_away(note):
                if self.read_or_refused(other):
                    self.assertNotEqual(read_program(other), program)
                    self.assertRegex(other, r"\A[a-z0-9]+(:[a-z0-9]+)*( [a-z0-9]+(:[a-z0-9]+)*)*\Z")
                    self.assertNotRegex(other, r":0[0-9]")
                    read += 1
        self.assertGreater(read, 20)

    def test_bent_notes(self):
        note = "levels:1 size:2 main:a cell:x:0 line:t:1:a guard:a:0:1 proc:a set:x:1 open:s"
        self.assertTrue(self.read_or_refused(note))
        changes = [
            ("levels:1", "levels:0"), ("levels:1", "levels:5"), ("levels:1", "levels:01"), ("levels:1", "levels:"), ("levels:1", "levels"),
            ("levels:1", "levels:1:1"), ("levels:1", "level:1"), ("levels:1", "levels:x"), ("levels:1", "levels:-1"), ("levels:1", "Levels:1"),
            ("size:2", "size:1"), ("size:2", "size:7"), ("size:2", "size:02"), ("size:2", "size:2 size:2"), ("main:a", "main:b"),
            ("main:a", "main:"), ("main:a", "main:1"), ("cell:x:0", "cell:x:2"), ("cell:x:0", "cell:y:0"), ("cell:x:0", "cell:x:00"),
            ("cell:x:0", "cell:x"), ("cell:x:0", "cell:x:0:0"), ("cell:x:0", "cell:x:0 cell:x:0"), ("cell:x:0", "cell:x:0 cell:x:1"),
            ("cell:x:0", "cell:y:0 cell:x:0"), ("line:t:1:a", "line:t:2:a"), ("line:t:1:a", "line:t:0:a"), ("line:t:1:a", "line:t:1:b"),
            ("line:t:1:a", "line:T:1:a"), ("line:t:1:a", "line:t:a:1"), ("line:t:1:a", "line:t:1"), ("line:t:1:a", "line:u:1:a line:t:1:a"),
            ("guard:a:0:1", "guard:a:0:0"), ("guard:a:0:1", "guard:a:0:2"), ("guard:a:0:1", "guard:a:3:1"), ("guard:a:0:1", "guard:b:0:1"),
            ("guard:a:0:1", "guard:a:1:1 guard:a:0:1"), ("guard:a:0:1", "guard:a:00:1"), ("guard:a:0:1", "guard:a:0:1 guard:a:0:1"),
            ("guard:a:0:1", "guard:a:-1:1"), ("proc:a", "proc:b"), ("proc:a", "proc:a proc:a"), ("proc:a", "proc"), ("proc:a", "proc:a:a"),
            ("proc:a", "proc:b proc:a"), ("proc:a", "keep proc:a"), ("set:x:1", "set:x:2"), ("set:x:1", "set:y:1"), ("set:x:1", "set:x"),
            ("set:x:1", "set:x:1:1"), ("set:x:1", "set:x:x"), ("set:x:1", "set:1:x"), ("set:x:1", "put:x:1"), ("set:x:1", "call:a"),
            ("set:x:1", "call:b"), ("set:x:1", "go:3"), ("set:x:1", "go:-1"), ("set:x:1", "keep:"), ("set:x:1", "keep:x"), ("set:x:1", ""),
            ("set:x:1", "raise:2"), ("set:x:1", "set:x:+1"), ("set:x:1", "set:x:\u0661"), ("set:x:1", "set:x:1\n"), ("open:s", "open:x"),
            ("open:s", "open:s "), ("open:s", "open:s\n"), ("open:s", "open:"), ("open:s", "open:s:s"), ("open:s", "open:S"),
            ("open:s", "open:s open:b open:c open:d"), (" cell:x:0", ""), (" proc:a", ""), ("levels:1 ", ""), ("size:2 ", ""), (" main:a", ""),
            ("levels:1 size:2", "size:2 levels:1"), ("line:t:1:a guard:a:0:1", "guard:a:0:1 line:t:1:a"), ("set:x:1", "go:100"),
            ("cell:x:0", "cell:x:0  "), ("levels:1", " levels:1"), ("cell:x:0 line:t:1:a", "line:t:1:a cell:x:0"), ("set:x:1", "go:" + "9" * 5000),
        ]
        for old, new in changes:
            self.assertIn(old, note)
            other = note.replace(old, new, 1)
            with self.subTest(other=other[:100]):
                self.refuses(BadText, other, read_program, other)

    def test_what_is_too_much_of_a_program(self):
        note = "levels:1 size:2 main:a cell:x:0 proc:a"
        self.assertTrue(self.read_or_refused(note + " keep" * 24))
        self.assertFalse(self.read_or_refused(note + " keep" * 25))
        more = [f" proc:a{sign}" for sign in "abcdefghijkl"]
        self.assertTrue(self.read_or_refused(note + "".join(more[:11])))
        self.assertFalse(self.read_or_refused(note + "".join(more)))
        cells = [f" cell:x{sign}:0" for sign in "abcdef"]
        self.assertTrue(self.read_or_refused(note.replace(" proc", "".join(cells[:5]) + " proc")))
        self.assertFalse(self.read_or_refused(note.replace(" proc", "".join(cells) + " proc")))
        lines = [f" line:t{sign}:1:a" for sign in "abcdefg"]
        self.assertTrue(self.read_or_refused(note.replace(" proc", "".join(lines[:6]) + " proc")))
        self.assertFalse(self.read_or_refused(note.replace(" proc", "".join(lines) + " proc")))


if __name__ == "__main__":
    unittest.main()
